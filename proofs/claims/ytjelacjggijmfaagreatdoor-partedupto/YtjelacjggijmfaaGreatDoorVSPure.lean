/-
  A range over a function whose iterator itself ranges over another function: the contract of such an iterator, and the law for the loop over it.
  What a plan does in a world, on lists.
  Which plans are sound, on lists of bytes: the form of a plan; its instructions; the walk over them.
-/
import Derived.RowKit
import Derived.RangeFuncNested
import Derived.RangeFuncBound
import Derived.RangeFuncLeaves
namespace Go.Pl
abbrev Bs := List UInt8
abbrev Aw := Nat → Option Nat

def two (c : Bs) (i : Nat) : Nat := 256 * (c.getD i 0).toNat + (c.getD (i + 1) 0).toNat
def isz (op : Nat) : Nat := if op = 1 ∨ op = 4 ∨ op = 8 then 2 else if op = 2 ∨ op = 6 ∨ op = 7 then 3 else if op = 3 then 5 else if op = 5 then 1 else 0
structure Ins where
  op : Nat
  at_ : Nat
  next : Nat
  first : Nat
  second : Nat
def opAt (c : Bs) (p : Nat) : Nat := (c.getD p 0).toNat
def mkIns (c : Bs) (p : Nat) : Ins :=
  ⟨opAt c p, p, p + isz (opAt c p), if isz (opAt c p) = 1 then 0 else if isz (opAt c p) = 2 then opAt c (p + 1) else two c (p + 1), if isz (opAt c p) = 5 then two c (p + 3) else 0⟩
def whole (c : Bs) (p : Nat) : Prop := isz (opAt c p) ≠ 0 ∧ p + isz (opAt c p) ≤ c.length
def okOps (m : Nat) (i : Ins) : Prop := (i.op = 1 → i.first ≤ 1) ∧ (i.op = 2 ∨ i.op = 7 → i.first < m) ∧ (i.op = 3 → i.first < m ∧ i.second < m)
def taken (op : Nat) : Nat := if op = 5 then 2 else if op = 6 then 1 else 0
def pushed (op : Nat) : Nat := if op = 1 ∨ op = 2 ∨ op = 3 ∨ op = 4 ∨ op = 5 then 1 else 0
def rise (op h : Nat) : Nat := h - taken op + pushed op
def del (A : Aw) (p : Nat) : Aw := fun q => if q = p then none else A q
def put (A : Aw) (p h : Nat) : Aw := fun q => if q = p then some h else A q
def agrees (A : Aw) (p h : Nat) : Prop := ∀ q, A p = some q → q = h
/-- what is awaited behind an instruction -/
def onward (A : Aw) (i : Ins) (h : Nat) : Aw := if i.op = 6 then put (del A i.at_) (i.next + i.first) (rise i.op h) else del A i.at_

def Snd (c : Bs) (m : Nat) : Nat → Nat → Nat → Aw → Prop
  | 0, _, _, _ => False
  | f + 1, p, h, A => agrees A p h ∧ ((p < c.length ∧ whole c p ∧ okOps m (mkIns c p) ∧ taken (opAt c p) ≤ h ∧ rise (opAt c p) h ≤ 16 ∧
      (opAt c p = 6 → agrees (del A p) ((mkIns c p).next + (mkIns c p).first) (rise (opAt c p) h)) ∧ Snd c m f (mkIns c p).next (rise (opAt c p) h) (onward A (mkIns c p) h)) ∨
    (¬ p < c.length ∧ h = 0 ∧ ∀ q, q ≠ p → A q = none))
def Spec (c : Bs) (m p h : Nat) (A : Aw) : Prop := ∃ f, Snd c m f p h A

theorem spec_end {c : Bs} {m p h : Nat} {A : Aw} (hp : ¬ p < c.length) : Spec c m p h A ↔ agrees A p h ∧ h = 0 ∧ ∀ q, q ≠ p → A q = none := by
  constructor
  · rintro ⟨f, hf⟩
    cases f with
    | zero => exact hf.elim
    | succ f =>
      obtain ⟨h1, h2 | h2⟩ := hf
      · exact absurd h2.1 hp
      · exact ⟨h1, h2.2⟩
  · rintro ⟨h1, h2⟩
    exact ⟨1, h1, .inr ⟨hp, h2⟩⟩
theorem spec_step {c : Bs} {m p h : Nat} {A : Aw} (hp : p < c.length) : Spec c m p h A ↔ agrees A p h ∧ whole c p ∧ okOps m (mkIns c p) ∧ taken (opAt c p) ≤ h ∧ rise (opAt c p) h ≤ 16 ∧
      (opAt c p = 6 → agrees (del A p) ((mkIns c p).next + (mkIns c p).first) (rise (opAt c p) h)) ∧ Spec c m (mkIns c p).next (rise (opAt c p) h) (onward A (mkIns c p) h) := by
  constructor
  · rintro ⟨f, hf⟩
    cases f with
    | zero => exact hf.elim
    | succ f =>
      obtain ⟨h1, h2 | h2⟩ := hf
      · obtain ⟨_, a, b, d, e, g, i⟩ := h2
        exact ⟨h1, a, b, d, e, g, f, i⟩
      · exact absurd hp h2.1
  · rintro ⟨h1, a, b, d, e, g, f, i⟩
    exact ⟨f + 1, h1, .inl ⟨hp, a, b, d, e, g, i⟩⟩

def Bg (c : Bs) : Nat → Nat → Nat → Prop
  | 0, _, _ => False
  | f + 1, p, q => q = p ∨ (p < c.length ∧ whole c p ∧ Bg c f (mkIns c p).next q)
def Beg (c : Bs) (p q : Nat) : Prop := ∃ f, Bg c f p q
theorem beg_self (c : Bs) (p : Nat) : Beg c p p := ⟨1, .inl rfl⟩
theorem beg_next {c : Bs} : ∀ {f p q : Nat}, Bg c f p q → q < c.length → whole c q → Beg c p (mkIns c q).next
  | 0, _, _, h, _, _ => h.elim
  | _ + 1, _, _, .inl rfl, hq, hw => ⟨2, .inr ⟨hq, hw, .inl rfl⟩⟩
  | _ + 1, _, _, .inr ⟨hp, hw', h⟩, hq, hw => let ⟨g, hg⟩ := beg_next h hq hw; ⟨g + 1, .inr ⟨hp, hw', hg⟩⟩
theorem Beg.next {c : Bs} {p q : Nat} (h : Beg c p q) (hq : q < c.length) (hw : whole c q) : Beg c p (mkIns c q).next := let ⟨_, hf⟩ := h; beg_next hf hq hw
theorem next_gt {c : Bs} {p : Nat} (hw : whole c p) : p < (mkIns c p).next := by have := hw.1; simp only [mkIns]; omega
theorem next_le {c : Bs} {p : Nat} (hw : whole c p) : (mkIns c p).next ≤ c.length := hw.2
theorem bg_ge {c : Bs} : ∀ {f p q : Nat}, Bg c f p q → p ≤ q
  | 0, _, _, h => h.elim
  | _ + 1, _, _, .inl rfl => Nat.le_refl _
  | _ + 1, _, _, .inr ⟨_, hw, h⟩ => Nat.le_trans (Nat.le_of_lt (next_gt hw)) (bg_ge h)
theorem bg_le {c : Bs} : ∀ {f p q : Nat}, Bg c f p q → p ≤ c.length → q ≤ c.length
  | 0, _, _, h, _ => h.elim
  | _ + 1, _, _, .inl rfl, hp => hp
  | _ + 1, _, _, .inr ⟨_, hw, h⟩, _ => bg_le h (next_le hw)
theorem Beg.le {c : Bs} {q : Nat} (h : Beg c 0 q) : q ≤ c.length := let ⟨_, hf⟩ := h; bg_le hf (Nat.zero_le _)
/-- between one beginning and the next there is none -/
theorem bg_gap {c : Bs} : ∀ {f g p a q : Nat}, Bg c f p a → Bg c g p q → a < c.length → whole c a → q ≤ a ∨ (mkIns c a).next ≤ q
  | 0, _, _, _, _, h, _, _, _ => h.elim
  | _, 0, _, _, _, _, h, _, _ => h.elim
  | _ + 1, _ + 1, _, _, _, .inl rfl, .inl rfl, _, _ => .inl (Nat.le_refl _)
  | _ + 1, _ + 1, _, _, _, .inl rfl, .inr ⟨_, _, h⟩, _, _ => .inr (bg_ge h)
  | _ + 1, _ + 1, _, _, _, .inr ⟨_, hw, h⟩, .inl rfl, _, _ => .inl (Nat.le_trans (Nat.le_of_lt (next_gt hw)) (bg_ge h))
  | _ + 1, _ + 1, _, _, _, .inr ⟨_, _, h⟩, .inr ⟨_, _, h'⟩, ha, hw => bg_gap h h' ha hw
theorem Beg.gap {c : Bs} {a q : Nat} (h : Beg c 0 a) (h' : Beg c 0 q) (ha : a < c.length) (hw : whole c a) : q ≤ a ∨ (mkIns c a).next ≤ q := let ⟨_, hf⟩ := h; let ⟨_, hg⟩ := h'; bg_gap hf hg ha hw
/-- in a sound plan each instruction that begins is whole and its operands may be -/
theorem snd_beg {c : Bs} {m : Nat} : ∀ {f p h : Nat} {A : Aw} {g q : Nat}, Snd c m f p h A → Bg c g p q → q < c.length → whole c q ∧ okOps m (mkIns c q)
  | 0, _, _, _, _, _, h, _, _ => h.elim
  | _ + 1, _, _, _, 0, _, _, h, _ => h.elim
  | f + 1, p, h, A, g + 1, q, hs, hb, hq => by
    obtain ⟨_, ⟨hp, hw, ho, _, _, _, hn⟩ | ⟨hp, _⟩⟩ := hs
    · rcases hb with rfl | ⟨_, _, hb⟩
      · exact ⟨hw, ho⟩
      · exact snd_beg hn hb hq
    · rcases hb with rfl | ⟨hp', _⟩
      · exact absurd hq hp
      · exact absurd hp' hp
theorem spec_beg {c : Bs} {m p h q : Nat} {A : Aw} (hs : Spec c m p h A) (hb : Beg c p q) (hq : q < c.length) : whole c q ∧ okOps m (mkIns c q) := let ⟨_, hf⟩ := hs; let ⟨_, hg⟩ := hb; snd_beg hf hg hq
/-- in a sound plan what is awaited is the beginning of an instruction, or the end -/
theorem snd_pos {c : Bs} {m : Nat} : ∀ {f p h : Nat} {A : Aw} {q x : Nat}, Snd c m f p h A → A q = some x → Beg c p q
  | 0, _, _, _, _, _, h, _ => h.elim
  | f + 1, p, h, A, q, x, hs, hx => by
    by_cases hqp : q = p
    · subst hqp; exact beg_self c q
    obtain ⟨_, ⟨hp, hw, ho, _, _, _, hn⟩ | ⟨hp, _, hz⟩⟩ := hs
    · have : ∃ y, onward A (mkIns c p) h q = some y := by
        unfold onward put del
        split
        · dsimp only
          split
          · exact ⟨_, rfl⟩
          · rw [if_neg (by exact hqp)]; exact ⟨x, hx⟩
        · dsimp only
          rw [if_neg (by exact hqp)]; exact ⟨x, hx⟩
      obtain ⟨y, hy⟩ := this
      obtain ⟨g, hg⟩ := snd_pos hn hy
      exact ⟨g + 1, .inr ⟨hp, hw, hg⟩⟩
    · rw [hz q hqp] at hx; cases hx
theorem spec_pos {c : Bs} {m p h q x : Nat} {A : Aw} (hs : Spec c m p h A) (hx : A q = some x) : Beg c p q := let ⟨_, hf⟩ := hs; snd_pos hf hx

/-- the strings of a plan, and what is behind them -/
def strs : Nat → Bs → Option (List Bs × Bs)
  | 0, r => some ([], r)
  | n + 1, r => if 2 ≤ r.length ∧ 2 + two r 0 ≤ r.length then (strs n (r.drop (2 + two r 0))).map fun x => ((r.drop 2).take (two r 0) :: x.1, x.2) else none
def load (s : Bs) : Option (List Bs × Bs) := if 4 ≤ s.length ∧ s.take 2 = [80, 49] ∧ two s 2 ≤ 1000 then strs (two s 2) (s.drop 4) else none
def checkOf (s : Bs) : Prop := ∃ x, load s = some x ∧ Spec x.2 x.1.length 0 0 (fun _ => none)

theorem strs_len : ∀ (n : Nat) (r : Bs) (x : List Bs × Bs), strs n r = some x → x.1.length = n ∧ x.2.length ≤ r.length
  | 0, r, x, h => by cases h; exact ⟨rfl, Nat.le_refl _⟩
  | n + 1, r, x, h => by
    unfold strs at h
    split at h
    · cases e : strs n (r.drop (2 + two r 0)) with
      | none => rw [e] at h; cases h
      | some y =>
        rw [e] at h
        cases h
        have := strs_len n _ y e
        simp only [List.length_cons, List.length_drop] at this ⊢
        omega
    · cases h
/-- strings that have come, and those that are to come -/
theorem strs_from (n : Nat) (r : Bs) (h : 2 ≤ r.length ∧ 2 + two r 0 ≤ r.length) (acc : List Bs) :
    (strs (n + 1) r).map (fun x => (acc ++ x.1, x.2)) = (strs n (r.drop (2 + two r 0))).map (fun x => ((acc ++ [(r.drop 2).take (two r 0)]) ++ x.1, x.2)) := by
  rw [strs, if_pos h, Option.map_map]
  congr 1
  funext x
  simp
theorem strs_not (n : Nat) (r : Bs) (h : ¬ (2 ≤ r.length ∧ 2 + two r 0 ≤ r.length)) : strs (n + 1) r = none := by rw [strs, if_neg h]

/-- the instructions, one behind the other; the first that is none, or not whole, ends it -/
def ilist (c : Bs) : Nat → Nat → List (Ins × Bool)
  | 0, _ => []
  | f + 1, p => if p < c.length then (if isz (opAt c p) ≠ 0 ∧ p + isz (opAt c p) ≤ c.length then (mkIns c p, true) :: ilist c f (mkIns c p).next else [(⟨0, 0, 0, 0, 0⟩, false)]) else []
theorem opAt_lt (c : Bs) (p : Nat) : opAt c p < 256 := (c.getD p 0).toNat_lt
theorem two_lt (c : Bs) (p : Nat) : two c p < 65536 := by
  have h1 := (c.getD p 0).toNat_lt
  have h2 := (c.getD (p + 1) 0).toNat_lt
  unfold two; omega
end Go.Pl
namespace Go.Pl
open Go Go.RowKit

structure File where
  path : Bs
  text : Bs
  time : Int
structure Eff where
  cmd : Bs
  writes : List File
  exit : Int
structure Wd where
  files : List File
  clock : Int
  cmds : List Bs
  exit : Int
def look (fs : List File) (p : Bs) : Option File := fs.find? (fun f => f.path == p)
def putF : List File → File → List File
  | [], f => [f]
  | g :: r, f => if g.path == f.path then f :: r else g :: putF r f
def addF (fs : List File) (f : File) : List File := if (look fs f.path).isSome then fs else fs ++ [f]
def newW (files : List File) (clock : Int) : Wd := ⟨files.foldl addF [], clock, [], 0⟩
def stamp (t : Int) (f : File) : File := ⟨f.path, f.text, t⟩
def giveW (ef : List Eff) (X : Wd) (c : Bs) : Wd :=
  match ef.find? (fun e => e.cmd == c) with
  | none => ⟨X.files, wrap64 (X.clock + 1), X.cmds ++ [c], X.exit⟩
  | some e => ⟨e.writes.foldl (fun fs f => putF fs (stamp (wrap64 (X.clock + 1)) f)) X.files, wrap64 (X.clock + 1), X.cmds ++ [c], e.exit⟩
def newer (fs : List File) (s t : Bs) : Bool := match look fs s, look fs t with
  | some a, some b => decide (a.time < b.time)
  | _, _ => false
/-- what an instruction does: the place behind, the stack, the flags, the world -/
def act (ss : List Bs) (ef : List Eff) (i : Ins) (st : List Bool) (fl : Nat → Bool) (X : Wd) : Nat × List Bool × (Nat → Bool) × Wd :=
  if i.op = 1 then (i.next, st ++ [i.first == 1], fl, X)
  else if i.op = 2 then (i.next, st ++ [(look X.files (ss.getD i.first [])).isNone], fl, X)
  else if i.op = 3 then (i.next, st ++ [newer X.files (ss.getD i.first []) (ss.getD i.second [])], fl, X)
  else if i.op = 4 then (i.next, st ++ [fl i.first], fl, X)
  else if i.op = 5 then (i.next, st.dropLast.dropLast ++ [st.getLast?.getD false || st.dropLast.getLast?.getD false], fl, X)
  else if i.op = 6 then (if st.getLast?.getD false then i.next else i.next + i.first, st.dropLast, fl, X)
  else if i.op = 7 then (i.next, st, fl, giveW ef X (ss.getD i.first []))
  else (i.next, st, fun q => if q = i.first then true else fl q, X)
def exec (c : Bs) (ss : List Bs) (ef : List Eff) : Nat → Nat → List Bool → (Nat → Bool) → Wd → Wd
  | 0, _, _, _, X => X
  | f + 1, p, st, fl, X => if p < c.length ∧ X.exit = 0 then
      exec c ss ef f (act ss ef (mkIns c p) st fl X).1 (act ss ef (mkIns c p) st fl X).2.1 (act ss ef (mkIns c p) st fl X).2.2.1 (act ss ef (mkIns c p) st fl X).2.2.2 else X
theorem exec_end {c : Bs} {ss : List Bs} {ef : List Eff} {f p : Nat} {st : List Bool} {fl : Nat → Bool} {X : Wd} (h : ¬ (p < c.length ∧ X.exit = 0)) : exec c ss ef f p st fl X = X := by
  cases f with
  | zero => rfl
  | succ f => rw [exec, if_neg h]
/-- the files by rising names -/
def insF (f : File) : List File → List File
  | [] => [f]
  | g :: r => if f.path < g.path then f :: g :: r else g :: insF f r
def sortF (fs : List File) : List File := fs.foldl (fun acc f => insF f acc) []

theorem look_put (fs : List File) (f : File) (q : Bs) : look (putF fs f) q = if f.path = q then some f else look fs q := by
  induction fs with
  | nil =>
    unfold putF look
    by_cases h : f.path = q
    · simp [h]
    · simp [h]
  | cons g r ih =>
    unfold putF
    by_cases hg : g.path = f.path
    · rw [if_pos (by simpa using hg)]
      unfold look
      by_cases h : f.path = q
      · simp [h]
      · have h' : ¬ g.path = q := by rw [hg]; exact h
        simp [h, h']
    · rw [if_neg (by simpa using hg)]
      unfold look at ih ⊢
      by_cases h : g.path = q
      · have hf : ¬ f.path = q := fun e => hg (h.trans e.symm)
        simp [h, hf]
      · rw [List.find?_cons_of_neg (by simpa using h), List.find?_cons_of_neg (by simpa using h)]
        exact ih
theorem look_append (fs : List File) (f : File) (q : Bs) : look (fs ++ [f]) q = (look fs q).or (if f.path = q then some f else none) := by
  unfold look
  rw [List.find?_append]
  congr 1
  by_cases h : f.path = q
  · simp [h]
  · simp [h]
theorem look_add (fs : List File) (f : File) (q : Bs) : look (addF fs f) q = (look fs q).or (if f.path = q then some f else none) := by
  unfold addF
  split
  · rename_i h
    by_cases e : f.path = q
    · subst e
      cases k : look fs f.path with
      | none => rw [k] at h; cases h
      | some x => rfl
    · rw [if_neg e, Option.or_none]
  · exact look_append fs f q
/-- no two files of one name -/
def Uniq (fs : List File) : Prop := (fs.map (·.path)).Nodup
theorem look_none {fs : List File} {q : Bs} : look fs q = none ↔ q ∉ fs.map (·.path) := by
  unfold look
  rw [List.find?_eq_none]
  simp
theorem uniq_add {fs : List File} {f : File} (h : Uniq fs) : Uniq (addF fs f) := by
  unfold addF
  split
  · exact h
  · rename_i k
    have : look fs f.path = none := by
      cases e : look fs f.path with
      | none => rfl
      | some x => rw [e] at k; exact absurd rfl k
    rw [look_none] at this
    unfold Uniq at *
    rw [List.map_append, List.nodup_append]
    exact ⟨h, by simp, fun a ha b hb => by simp at hb; subst hb; exact fun e => this (e ▸ ha)⟩
theorem put_paths (fs : List File) (f : File) : (putF fs f).map (·.path) = if f.path ∈ fs.map (·.path) then fs.map (·.path) else fs.map (·.path) ++ [f.path] := by
  induction fs with
  | nil => simp [putF]
  | cons g r ih =>
    unfold putF
    by_cases hg : g.path = f.path
    · rw [if_pos (by simpa using hg)]
      simp [hg]
    · rw [if_neg (by simpa using hg), List.map_cons, ih]
      have hg' : ¬ f.path = g.path := fun e => hg e.symm
      by_cases k : f.path ∈ r.map (·.path)
      · rw [if_pos k, if_pos (by simp only [List.map_cons, List.mem_cons]; exact .inr k)]; rfl
      · rw [if_neg k, if_neg (by simp only [List.map_cons, List.mem_cons]; exact fun e => e.elim hg' k)]; rfl
theorem uniq_put {fs : List File} {f : File} (h : Uniq fs) : Uniq (putF fs f) := by
  unfold Uniq at *
  rw [put_paths]
  split
  · exact h
  · rename_i k
    rw [List.nodup_append]
    exact ⟨h, by simp, fun a ha b hb => by simp at hb; subst hb; exact fun e => k (e ▸ ha)⟩
end Go.Pl
namespace Go.Mk
open Go Go.RowKit
variable {P : Program}

/-- At the wide fence the number of frames that are left says nothing. -/
theorem callsIn_any {n m : Nat} {f : FuncId} {args : Array Value} {w : World} {R : Ending → World → Prop} (h : CallsIn Fence.wide n P f args w R) : CallsIn Fence.wide m P f args w R :=
  callsIn_wide.2 (callsIn_wide.1 h)
theorem roundIn_any {n m l : Nat} {f : FuncId} {tmps : Array Value} {assign body : Code} {w : World} {R : Ending → World → Prop} (h : RoundIn Fence.wide n P l f tmps assign body w R) : RoundIn Fence.wide m P l f tmps assign body w R :=
  ⟨h.1, fun c cs _ => h.2 c cs (room_wide _)⟩
theorem roundIn_in {n m l k : Nat} {f : FuncId} {tmps : Array Value} {assign body : Code} {w : World} {R : Ending → World → Prop} (h : RoundIn Fence.wide n P l f tmps assign body w R) : RoundIn (Fence.wide.inRound k) m P l f tmps assign body w R :=
  roundIn_any h

/-- An iterator that gives the elements of L in their order, as long as the rounds go on. What the caller holds must abide new blocks, and the turn of a block that is no cells and was laid since the iterator was called. -/
def Iter {α : Type} (P : Program) (g : Nat) (lb : Array Value) (encs : α → Array Value) (Kp : Nat → World → World → Prop) (L : List α) (w : World) : Prop :=
  ∀ (l : Nat) (J Jx : List α → World → Prop) (W : World), l < W.heap.size → Below w.heap.size w W → OwnFrom W.heap.size J → OwnFrom W.heap.size Jx →
    (∀ pre x post W1, L = pre ++ x :: post → J pre W1 → YieldAt Fence.wide 9 P l (encs x) W1 fun e W' =>
      (e = .returned (.bool true) ∧ J (pre ++ [x]) W' ∧ Kp l W1 W') ∨ (e = .returned (.bool false) ∧ Jx (pre ++ [x]) W' ∧ Kp l W1 W')) →
    J [] W →
    CallsIn Fence.wide 9 P g (#[.func (.yield l) #[] #[]] ++ lb) W fun e W' => (∃ v, e = .returned v) ∧ (J L W' ∨ ∃ pre post, L = pre ++ post ∧ Jx pre W')

theorem ownFrom_le {β : Type} {B B' : Nat} {I : β → World → Prop} (h : OwnFrom B I) (hB : B ≤ B') : OwnFrom B' I :=
  fun s X Y row hs hg hr => h s X Y row hs hg (fun r e => ⟨Nat.le_trans hB (hr r e).1, (hr r e).2⟩)
/-- What lies in a block below B, or in one that the step does not turn, stays. -/
theorem same_below {X Y : World} {row : Option Nat} {B k : Nat} {o : Obj} (hg : X.grownBy Y row) (hr : ∀ r, row = some r → B ≤ r) (hk : k < B) (h : X.heap[k]? = some o) : Y.heap[k]? = some o :=
  (hg.block k (Array.getElem?_eq_some_iff.1 h).1 (fun e => by have := hr k e.symm; omega)).trans h

/-- How the body of a round may be left. -/
def roundPostX {α : Type} (B : Nat) (Kp : World → World → Prop) (I : List α → World → Prop) (Ix : Code → List α → World → Prop) (xs : List α) (W : World) : Exit → Act → World → Prop
  | .normal, _, W' => KeepsFrom B W W' ∧ Kp W W' ∧ I xs W'
  | .ret, _, W' => KeepsFrom B W W' ∧ Kp W W' ∧ Ix .ret xs W'
  | .exit id, _, W' => KeepsFrom B W W' ∧ Kp W W' ∧ Ix (.exit id) xs W'
  | .goto t, _, W' => KeepsFrom B W W' ∧ Kp W W' ∧ Ix (.goto t) xs W'
  | .panic _, _, _ => False
  | .outgrown, _, _ => False

theorem range_law {α : Type} {g : Operand} {ps : Array Tmp} {assign body : Code} {Q : Exit → Act → World → Prop} {a : Act} {w : World}
    {gf : Nat} {lb : Array Value} (hg : a.eval g = .func (.func gf) #[] lb) (eg : ∀ args w, (callFunc gf args).run P w = .ok (.enter gf args) w)
    {encs : α → Array Value} {Kp : Nat → World → World → Prop} {L : List α} {w0 : World} (hseq : Iter P gf lb encs Kp L w0)
    (hKt : ∀ {l : Nat} {A B C : World}, Kp l A B → Kp l B C → Kp l A C) (hKb : ∀ (W : World) (l : Nat) (o o' : Obj), w.heap.size ≤ l → W.heap[l]? = some o → o.isCells = false → Kp l W (W.putObj l o'))
    (hb0 : Below w0.heap.size w0 w) (hps : ∀ x, (encs x).size = ps.size)
    (I : List α → World → Prop) (Ix : Code → List α → World → Prop) (hI : OwnFrom w.heap.size I) (hIx : ∀ c, OwnFrom w.heap.size (Ix c)) (h0 : I [] w)
    (Ax : α → Act → World → Prop) (hAx : ∀ x a', OwnFrom w.heap.size (fun (_ : Unit) W => Ax x a' W))
    (hassign : ∀ (l : Nat) (pre : List α) (x : α) (post : List α) (W : World) (K : Act → World → Prop), L = pre ++ x :: post → I pre W →
      (∀ a' W', KeepsFrom w.heap.size W W' → Kp l W W' → I pre W' → Ax x a' W' → K a' W') →
      assign.wpIn (Fence.wide.inRound l) 9 P (Exit.then K (fun _ _ _ => False)) { tmps := (ps.zip (encs x)).foldl (fun t (p, v) => t.setIfInBounds p v) a.tmps, defers := [] } W)
    (hbody : ∀ (l : Nat) (pre : List α) (x : α) (post : List α) (a' : Act) (W : World), L = pre ++ x :: post → I pre W → Ax x a' W →
      body.wpIn (Fence.wide.inRound l) 9 P (roundPostX w.heap.size (Kp l) I Ix (pre ++ [x]) W) a' W)
    (hdone : ∀ (D : Nat) (W : World), w.heap.size ≤ D → I L W → W.heap[D]? = some (.deferred (some [])) → Q .normal { a with defers := { target := .collected D, args := #[] } :: a.defers } W)
    (hstop : ∀ (D : Nat) (c : Code) (pre post : List α) (W : World), w.heap.size ≤ D → L = pre ++ post → Ix c pre W → W.heap[D]? = some (.deferred (some [])) →
      c.wpIn Fence.wide 9 P Q { a with defers := { target := .collected D, args := #[] } :: a.defers } W) :
    (Code.rangeFunc g ps assign body).wpIn Fence.wide 9 P Q a w := by
  refine wpIn_rangeFunc fun fn hfn => ?_
  -- the record of the loop, in a state, with a jump that is left to do
  obtain ⟨rc, hrc⟩ : ∃ rc : LoopState → Option Code → Loop, ∀ s p, rc s p = { state := s, pending := p, fn := fn, tmps := a.tmps, params := ps, assign := assign, body := body, defers := w.heap.size } := ⟨_, fun _ _ => rfl⟩
  obtain ⟨V, hV⟩ : ∃ V, V = (w.alloc (.deferred (some []))).alloc (.loop (rc .ready none)) := ⟨_, rfl⟩
  have hVs : V.heap.size = w.heap.size + 2 := by rw [hV]; simp
  have hVl : V.heap[w.heap.size + 1]? = some (.loop (rc .ready none)) := by
    have := World.alloc_heap_new (w.alloc (.deferred (some []))) (.loop (rc .ready none))
    rw [World.size_alloc] at this
    rw [hV]; exact this
  have hVd : V.heap[w.heap.size]? = some (.deferred (some [])) := by
    rw [hV]; exact (Below.heap_alloc _ _ _ (by simp)).trans (World.alloc_heap_new w _)
  -- what the iterator is asked to carry on: the caller's own, and the two blocks of the loop
  obtain ⟨J, hJ⟩ : ∃ J : List α → World → Prop, J = fun pre W => I pre W ∧ W.heap[w.heap.size + 1]? = some (.loop (rc .ready none)) ∧ W.heap[w.heap.size]? = some (.deferred (some [])) := ⟨_, rfl⟩
  obtain ⟨Jx, hJx⟩ : ∃ Jx : List α → World → Prop, Jx = fun pre W => ∃ c, Ix c pre W ∧ W.heap[w.heap.size + 1]? = some (.loop (rc .done (some c))) ∧ W.heap[w.heap.size]? = some (.deferred (some [])) := ⟨_, rfl⟩
  have hJo : OwnFrom V.heap.size J := by
    rw [hJ]
    rintro s X Y row ⟨hi, hl, hd⟩ hgr hr
    have hr' : ∀ r, row = some r → w.heap.size + 2 ≤ r := fun r e => by have := (hr r e).1; omega
    exact ⟨hI s X Y row hi hgr (fun r e => ⟨by have := hr' r e; omega, (hr r e).2⟩), same_below hgr hr' (by omega) hl, same_below hgr hr' (by omega) hd⟩
  have hJxo : OwnFrom V.heap.size Jx := by
    rw [hJx]
    rintro s X Y row ⟨c, hi, hl, hd⟩ hgr hr
    have hr' : ∀ r, row = some r → w.heap.size + 2 ≤ r := fun r e => by have := (hr r e).1; omega
    exact ⟨c, hIx c s X Y row hi hgr (fun r e => ⟨by have := hr' r e; omega, (hr r e).2⟩), same_below hgr hr' (by omega) hl, same_below hgr hr' (by omega) hd⟩
  have hbV : Below w0.heap.size w0 V := by
    rw [hV]; exact (hb0.alloc hb0.size _).alloc (by have := hb0.size; simp; omega) _
  have hJ0 : J [] V := by rw [hJ]; exact ⟨by rw [hV]; exact hI.alloc _ (hI.alloc _ h0), hVl, hVd⟩
  -- a round
  have hround : ∀ pre x post W1, L = pre ++ x :: post → J pre W1 → YieldAt Fence.wide 9 P (w.heap.size + 1) (encs x) W1 fun e W' =>
      (e = .returned (.bool true) ∧ J (pre ++ [x]) W' ∧ Kp (w.heap.size + 1) W1 W') ∨ (e = .returned (.bool false) ∧ Jx (pre ++ [x]) W' ∧ Kp (w.heap.size + 1) W1 W') := by
    intro pre x post W1 hL hj
    rw [hJ] at hj
    obtain ⟨hi, hl, hd⟩ := hj
    have hy := run_yield (P := P) (args := encs x) hl (by rw [hrc]; exact hps x)
    simp only [hrc] at hy
    refine ⟨fn, _, assign, body, hy, roundIn_of_wpIn hfn (hassign _ pre x post W1 _ hL hi ?_)⟩
    intro a' W2 hkf hkp hi2 hax
    have hl2 := hkf.same _ _ (by omega) hl rfl
    have hd2 := hkf.same _ _ (Nat.le_refl _) hd rfl
    refine ⟨_, run_beginRound hl2 (by rw [hrc]), ?_⟩
    obtain ⟨W3, hW3⟩ : ∃ W3, W3 = W2.putObj (w.heap.size + 1) (.loop { rc .ready none with state := .busy }) := ⟨_, rfl⟩
    rw [← hW3]
    have hlt := (Array.getElem?_eq_some_iff.1 hl2).1
    have hl3 : W3.heap[w.heap.size + 1]? = some (.loop { rc .ready none with state := .busy }) := by rw [hW3]; exact World.putObj_heap_same hlt
    have hd3 : W3.heap[w.heap.size]? = some (.deferred (some [])) := by rw [hW3]; exact (World.putObj_heap_other (by omega)).trans hd2
    have hkp3 : Kp (w.heap.size + 1) W2 W3 := by rw [hW3]; exact hKb _ _ _ _ (by omega) hl2 rfl
    have hi3 : I pre W3 := by rw [hW3]; exact hI.putObj _ hi2 (by omega) hl2 rfl
    have hax3 : Ax x a' W3 := by rw [hW3]; exact (hAx x a').putObj (s := ()) _ hax (by omega) hl2 rfl
    refine wpIn_mono (hbody _ pre x post a' W3 hL hi3 hax3) ?_
    -- the round's end, by the way in which the body is left
    have fin : ∀ (jump : Option Code) (W4 : World), KeepsFrom w.heap.size W3 W4 → ∃ W5, (Instr.endRound (w.heap.size + 1) jump).run P W4 = .ok (.bool jump.isNone) W5 ∧
        W5 = W4.putObj (w.heap.size + 1) (.loop (rc (if jump.isNone then .ready else .done) jump)) ∧ W4.heap[w.heap.size + 1]? = some (.loop { rc .ready none with state := .busy }) ∧
        W5.heap[w.heap.size + 1]? = some (.loop (rc (if jump.isNone then .ready else .done) jump)) ∧ W5.heap[w.heap.size]? = some (.deferred (some [])) := by
      intro jump W4 hk
      have hl4 := hk.same _ _ (by omega) hl3 rfl
      have hd4 := hk.same _ _ (Nat.le_refl _) hd3 rfl
      have he := run_endRound (P := P) jump hl4
      simp only [hrc] at he
      refine ⟨_, he, by simp only [hrc], hl4, ?_, ?_⟩
      · simp only [hrc]; exact World.putObj_heap_same (Array.getElem?_eq_some_iff.1 hl4).1
      · exact (World.putObj_heap_other (by omega)).trans hd4
    have stop : ∀ (c : Code) (W4 : World), KeepsFrom w.heap.size W3 W4 → Kp (w.heap.size + 1) W3 W4 → Ix c (pre ++ [x]) W4 → ∃ v W5, (Instr.endRound (w.heap.size + 1) (some c)).run P W4 = .ok v W5 ∧
        ((Ending.returned v = .returned (.bool true) ∧ J (pre ++ [x]) W5 ∧ Kp (w.heap.size + 1) W1 W5) ∨ (Ending.returned v = .returned (.bool false) ∧ Jx (pre ++ [x]) W5 ∧ Kp (w.heap.size + 1) W1 W5)) := by
      intro c W4 hk hkp4 hx
      obtain ⟨W5, hr, e5, hl4, hl5, hd5⟩ := fin (some c) W4 hk
      exact ⟨_, W5, hr, .inr ⟨rfl, by rw [hJx]; exact ⟨c, by rw [e5]; exact (hIx c).putObj _ hx (by omega) hl4 rfl, hl5, hd5⟩, hKt hkp (hKt hkp3 (hKt hkp4 (by rw [e5]; exact hKb _ _ _ _ (by omega) hl4 rfl)))⟩⟩
    rintro e a4 W4 hp
    cases e with
    | normal =>
      obtain ⟨hk, hkp4, hi4⟩ := hp
      obtain ⟨W5, hr, e5, hl4, hl5, hd5⟩ := fin none W4 hk
      refine ⟨_, W5, hr, .inl ⟨rfl, by rw [hJ]; exact ⟨by rw [e5]; exact hI.putObj _ hi4 (by omega) hl4 rfl, hl5, hd5⟩, ?_⟩⟩
      exact hKt hkp (hKt hkp3 (hKt hkp4 (by rw [e5]; exact hKb _ _ _ _ (by omega) hl4 rfl)))
    | ret => exact stop _ W4 hp.1 hp.2.1 hp.2.2
    | exit id => exact stop _ W4 hp.1 hp.2.1 hp.2.2
    | goto t => exact stop _ W4 hp.1 hp.2.1 hp.2.2
    | panic ch => exact hp.elim
    | outgrown => exact hp.elim
  refine ⟨w.heap.size + 1, [{ target := .collected w.heap.size, args := #[] }], V, { target := .fn (.func gf) lb, args := #[.func (.yield (w.heap.size + 1)) #[] #[]] }, V, gf,
    #[.func (.yield (w.heap.size + 1)) #[] #[]] ++ lb, V, ?_, ?_, fun _ _ => trivial, ?_, fun h => by simp [Fence.wide] at h, ?_⟩
  · rw [hV, hrc]; exact run_enterLoop_outer _ _ _ _ _
  · simp only [resolve, hg]
    simp [go_sem]
  · simp [invoke, go_sem, eg]
  · refine (callsIn_any (hseq (w.heap.size + 1) J Jx V (by omega) hbV hJo hJxo hround hJ0)).mono ?_
    rintro e W2 ⟨⟨v, rfl⟩, h | ⟨pre, post, hL, h⟩⟩
    · rw [hJ] at h
      obtain ⟨hi, hl, hd⟩ := h
      have he := run_endLoop (P := P) hl (by rw [hrc]; simp)
      simp only [hrc] at he
      exact ⟨none, _, he, hdone _ _ (Nat.le_refl _) (hI.putObj _ hi (by omega) hl rfl) ((World.putObj_heap_other (by omega)).trans hd)⟩
    · rw [hJx] at h
      obtain ⟨c, hi, hl, hd⟩ := h
      have he := run_endLoop (P := P) hl (by rw [hrc]; simp)
      simp only [hrc] at he
      exact ⟨some c, _, he, hstop _ c pre post _ (Nat.le_refl _) hL ((hIx c).putObj _ hi (by omega) hl rfl) ((World.putObj_heap_other (by omega)).trans hd)⟩
end Go.Mk
