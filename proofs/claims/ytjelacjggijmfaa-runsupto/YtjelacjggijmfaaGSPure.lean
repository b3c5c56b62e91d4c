/-
  Which plans are sound, on lists of bytes: the form of a plan; its instructions; the walk over them.
  What a plan does in a world, on lists.
  A sound plan that runs: at each place its stack has the height that is awaited there.
  The heights of the stack at each place, as the document's own answer keeps them.
-/
import Derived.RowKit
namespace Go.Pl
abbrev Bs := List UInt8
abbrev Aw := Nat → Option Nat

def two (c : Bs) (i : Nat) : Nat := 256 * (c.getD i 0).toNat + (c.getD (i + 1) 0).toNat
def isz (op : Nat) : Nat := if op = 1 ∨ op = 4 ∨ op = 8 then 2 else if op = 2 ∨ op = 6 ∨ op = 7 then 3 else if op = 3 then 5 else if op = 5 then 1 else 0
structure Ins where
  op : Nat
  at_ : Nat
  next : Nat
  first : Nat
  second : Nat
def opAt (c : Bs) (p : Nat) : Nat := (c.getD p 0).toNat
def mkIns (c : Bs) (p : Nat) : Ins :=
  ⟨opAt c p, p, p + isz (opAt c p), if isz (opAt c p) = 1 then 0 else if isz (opAt c p) = 2 then opAt c (p + 1) else two c (p + 1), if isz (opAt c p) = 5 then two c (p + 3) else 0⟩
def whole (c : Bs) (p : Nat) : Prop := isz (opAt c p) ≠ 0 ∧ p + isz (opAt c p) ≤ c.length
def okOps (m : Nat) (i : Ins) : Prop := (i.op = 1 → i.first ≤ 1) ∧ (i.op = 2 ∨ i.op = 7 → i.first < m) ∧ (i.op = 3 → i.first < m ∧ i.second < m)
def taken (op : Nat) : Nat := if op = 5 then 2 else if op = 6 then 1 else 0
def pushed (op : Nat) : Nat := if op = 1 ∨ op = 2 ∨ op = 3 ∨ op = 4 ∨ op = 5 then 1 else 0
def rise (op h : Nat) : Nat := h - taken op + pushed op
def del (A : Aw) (p : Nat) : Aw := fun q => if q = p then none else A q
def put (A : Aw) (p h : Nat) : Aw := fun q => if q = p then some h else A q
def agrees (A : Aw) (p h : Nat) : Prop := ∀ q, A p = some q → q = h
/-- what is awaited behind an instruction -/
def onward (A : Aw) (i : Ins) (h : Nat) : Aw := if i.op = 6 then put (del A i.at_) (i.next + i.first) (rise i.op h) else del A i.at_

def Snd (c : Bs) (m : Nat) : Nat → Nat → Nat → Aw → Prop
  | 0, _, _, _ => False
  | f + 1, p, h, A => agrees A p h ∧ ((p < c.length ∧ whole c p ∧ okOps m (mkIns c p) ∧ taken (opAt c p) ≤ h ∧ rise (opAt c p) h ≤ 16 ∧
      (opAt c p = 6 → agrees (del A p) ((mkIns c p).next + (mkIns c p).first) (rise (opAt c p) h)) ∧ Snd c m f (mkIns c p).next (rise (opAt c p) h) (onward A (mkIns c p) h)) ∨
    (¬ p < c.length ∧ h = 0 ∧ ∀ q, q ≠ p → A q = none))
def Spec (c : Bs) (m p h : Nat) (A : Aw) : Prop := ∃ f, Snd c m f p h A

theorem spec_end {c : Bs} {m p h : Nat} {A : Aw} (hp : ¬ p < c.length) : Spec c m p h A ↔ agrees A p h ∧ h = 0 ∧ ∀ q, q ≠ p → A q = none := by
  constructor
  · rintro ⟨f, hf⟩
    cases f with
    | zero => exact hf.elim
    | succ f =>
      obtain ⟨h1, h2 | h2⟩ := hf
      · exact absurd h2.1 hp
      · exact ⟨h1, h2.2⟩
  · rintro ⟨h1, h2⟩
    exact ⟨1, h1, .inr ⟨hp, h2⟩⟩
theorem spec_step {c : Bs} {m p h : Nat} {A : Aw} (hp : p < c.length) : Spec c m p h A ↔ agrees A p h ∧ whole c p ∧ okOps m (mkIns c p) ∧ taken (opAt c p) ≤ h ∧ rise (opAt c p) h ≤ 16 ∧
      (opAt c p = 6 → agrees (del A p) ((mkIns c p).next + (mkIns c p).first) (rise (opAt c p) h)) ∧ Spec c m (mkIns c p).next (rise (opAt c p) h) (onward A (mkIns c p) h) := by
  constructor
  · rintro ⟨f, hf⟩
    cases f with
    | zero => exact hf.elim
    | succ f =>
      obtain ⟨h1, h2 | h2⟩ := hf
      · obtain ⟨_, a, b, d, e, g, i⟩ := h2
        exact ⟨h1, a, b, d, e, g, f, i⟩
      · exact absurd hp h2.1
  · rintro ⟨h1, a, b, d, e, g, f, i⟩
    exact ⟨f + 1, h1, .inl ⟨hp, a, b, d, e, g, i⟩⟩

def Bg (c : Bs) : Nat → Nat → Nat → Prop
  | 0, _, _ => False
  | f + 1, p, q => q = p ∨ (p < c.length ∧ whole c p ∧ Bg c f (mkIns c p).next q)
def Beg (c : Bs) (p q : Nat) : Prop := ∃ f, Bg c f p q
theorem beg_self (c : Bs) (p : Nat) : Beg c p p := ⟨1, .inl rfl⟩
theorem beg_next {c : Bs} : ∀ {f p q : Nat}, Bg c f p q → q < c.length → whole c q → Beg c p (mkIns c q).next
  | 0, _, _, h, _, _ => h.elim
  | _ + 1, _, _, .inl rfl, hq, hw => ⟨2, .inr ⟨hq, hw, .inl rfl⟩⟩
  | _ + 1, _, _, .inr ⟨hp, hw', h⟩, hq, hw => let ⟨g, hg⟩ := beg_next h hq hw; ⟨g + 1, .inr ⟨hp, hw', hg⟩⟩
theorem Beg.next {c : Bs} {p q : Nat} (h : Beg c p q) (hq : q < c.length) (hw : whole c q) : Beg c p (mkIns c q).next := let ⟨_, hf⟩ := h; beg_next hf hq hw
theorem next_gt {c : Bs} {p : Nat} (hw : whole c p) : p < (mkIns c p).next := by have := hw.1; simp only [mkIns]; omega
theorem next_le {c : Bs} {p : Nat} (hw : whole c p) : (mkIns c p).next ≤ c.length := hw.2
theorem bg_ge {c : Bs} : ∀ {f p q : Nat}, Bg c f p q → p ≤ q
  | 0, _, _, h => h.elim
  | _ + 1, _, _, .inl rfl => Nat.le_refl _
  | _ + 1, _, _, .inr ⟨_, hw, h⟩ => Nat.le_trans (Nat.le_of_lt (next_gt hw)) (bg_ge h)
theorem bg_le {c : Bs} : ∀ {f p q : Nat}, Bg c f p q → p ≤ c.length → q ≤ c.length
  | 0, _, _, h, _ => h.elim
  | _ + 1, _, _, .inl rfl, hp => hp
  | _ + 1, _, _, .inr ⟨_, hw, h⟩, _ => bg_le h (next_le hw)
theorem Beg.le {c : Bs} {q : Nat} (h : Beg c 0 q) : q ≤ c.length := let ⟨_, hf⟩ := h; bg_le hf (Nat.zero_le _)
/-- between one beginning and the next there is none -/
theorem bg_gap {c : Bs} : ∀ {f g p a q : Nat}, Bg c f p a → Bg c g p q → a < c.length → whole c a → q ≤ a ∨ (mkIns c a).next ≤ q
  | 0, _, _, _, _, h, _, _, _ => h.elim
  | _, 0, _, _, _, _, h, _, _ => h.elim
  | _ + 1, _ + 1, _, _, _, .inl rfl, .inl rfl, _, _ => .inl (Nat.le_refl _)
  | _ + 1, _ + 1, _, _, _, .inl rfl, .inr ⟨_, _, h⟩, _, _ => .inr (bg_ge h)
  | _ + 1, _ + 1, _, _, _, .inr ⟨_, hw, h⟩, .inl rfl, _, _ => .inl (Nat.le_trans (Nat.le_of_lt (next_gt hw)) (bg_ge h))
  | _ + 1, _ + 1, _, _, _, .inr ⟨_, _, h⟩, .inr ⟨_, _, h'⟩, ha, hw => bg_gap h h' ha hw
theorem Beg.gap {c : Bs} {a q : Nat} (h : Beg c 0 a) (h' : Beg c 0 q) (ha : a < c.length) (hw : whole c a) : q ≤ a ∨ (mkIns c a).next ≤ q := let ⟨_, hf⟩ := h; let ⟨_, hg⟩ := h'; bg_gap hf hg ha hw
/-- in a sound plan each instruction that begins is whole and its operands may be -/
theorem snd_beg {c : Bs} {m : Nat} : ∀ {f p h : Nat} {A : Aw} {g q : Nat}, Snd c m f p h A → Bg c g p q → q < c.length → whole c q ∧ okOps m (mkIns c q)
  | 0, _, _, _, _, _, h, _, _ => h.elim
  | _ + 1, _, _, _, 0, _, _, h, _ => h.elim
  | f + 1, p, h, A, g + 1, q, hs, hb, hq => by
    obtain ⟨_, ⟨hp, hw, ho, _, _, _, hn⟩ | ⟨hp, _⟩⟩ := hs
    · rcases hb with rfl | ⟨_, _, hb⟩
      · exact ⟨hw, ho⟩
      · exact snd_beg hn hb hq
    · rcases hb with rfl | ⟨hp', _⟩
      · exact absurd hq hp
      · exact absurd hp' hp
theorem spec_beg {c : Bs} {m p h q : Nat} {A : Aw} (hs : Spec c m p h A) (hb : Beg c p q) (hq : q < c.length) : whole c q ∧ okOps m (mkIns c q) := let ⟨_, hf⟩ := hs; let ⟨_, hg⟩ := hb; snd_beg hf hg hq
/-- in a sound plan what is awaited is the beginning of an instruction, or the end -/
theorem snd_pos {c : Bs} {m : Nat} : ∀ {f p h : Nat} {A : Aw} {q x : Nat}, Snd c m f p h A → A q = some x → Beg c p q
  | 0, _, _, _, _, _, h, _ => h.elim
  | f + 1, p, h, A, q, x, hs, hx => by
    by_cases hqp : q = p
    · subst hqp; exact beg_self c q
    obtain ⟨_, ⟨hp, hw, ho, _, _, _, hn⟩ | ⟨hp, _, hz⟩⟩ := hs
    · have : ∃ y, onward A (mkIns c p) h q = some y := by
        unfold onward put del
        split
        · dsimp only
          split
          · exact ⟨_, rfl⟩
          · rw [if_neg (by exact hqp)]; exact ⟨x, hx⟩
        · dsimp only
          rw [if_neg (by exact hqp)]; exact ⟨x, hx⟩
      obtain ⟨y, hy⟩ := this
      obtain ⟨g, hg⟩ := snd_pos hn hy
      exact ⟨g + 1, .inr ⟨hp, hw, hg⟩⟩
    · rw [hz q hqp] at hx; cases hx
theorem spec_pos {c : Bs} {m p h q x : Nat} {A : Aw} (hs : Spec c m p h A) (hx : A q = some x) : Beg c p q := let ⟨_, hf⟩ := hs; snd_pos hf hx

/-- the strings of a plan, and what is behind them -/
def strs : Nat → Bs → Option (List Bs × Bs)
  | 0, r => some ([], r)
  | n + 1, r => if 2 ≤ r.length ∧ 2 + two r 0 ≤ r.length then (strs n (r.drop (2 + two r 0))).map fun x => ((r.drop 2).take (two r 0) :: x.1, x.2) else none
def load (s : Bs) : Option (List Bs × Bs) := if 4 ≤ s.length ∧ s.take 2 = [80, 49] ∧ two s 2 ≤ 1000 then strs (two s 2) (s.drop 4) else none
def checkOf (s : Bs) : Prop := ∃ x, load s = some x ∧ Spec x.2 x.1.length 0 0 (fun _ => none)

theorem strs_len : ∀ (n : Nat) (r : Bs) (x : List Bs × Bs), strs n r = some x → x.1.length = n ∧ x.2.length ≤ r.length
  | 0, r, x, h => by cases h; exact ⟨rfl, Nat.le_refl _⟩
  | n + 1, r, x, h => by
    unfold strs at h
    split at h
    · cases e : strs n (r.drop (2 + two r 0)) with
      | none => rw [e] at h; cases h
      | some y =>
        rw [e] at h
        cases h
        have := strs_len n _ y e
        simp only [List.length_cons, List.length_drop] at this ⊢
        omega
    · cases h
/-- strings that have come, and those that are to come -/
theorem strs_from (n : Nat) (r : Bs) (h : 2 ≤ r.length ∧ 2 + two r 0 ≤ r.length) (acc : List Bs) :
    (strs (n + 1) r).map (fun x => (acc ++ x.1, x.2)) = (strs n (r.drop (2 + two r 0))).map (fun x => ((acc ++ [(r.drop 2).take (two r 0)]) ++ x.1, x.2)) := by
  rw [strs, if_pos h, Option.map_map]
  congr 1
  funext x
  simp
theorem strs_not (n : Nat) (r : Bs) (h : ¬ (2 ≤ r.length ∧ 2 + two r 0 ≤ r.length)) : strs (n + 1) r = none := by rw [strs, if_neg h]

/-- the instructions, one behind the other; the first that is none, or not whole, ends it -/
def ilist (c : Bs) : Nat → Nat → List (Ins × Bool)
  | 0, _ => []
  | f + 1, p => if p < c.length then (if isz (opAt c p) ≠ 0 ∧ p + isz (opAt c p) ≤ c.length then (mkIns c p, true) :: ilist c f (mkIns c p).next else [(⟨0, 0, 0, 0, 0⟩, false)]) else []
theorem opAt_lt (c : Bs) (p : Nat) : opAt c p < 256 := (c.getD p 0).toNat_lt
theorem two_lt (c : Bs) (p : Nat) : two c p < 65536 := by
  have h1 := (c.getD p 0).toNat_lt
  have h2 := (c.getD (p + 1) 0).toNat_lt
  unfold two; omega
end Go.Pl
namespace Go.Pl
open Go Go.RowKit

structure File where
  path : Bs
  text : Bs
  time : Int
structure Eff where
  cmd : Bs
  writes : List File
  exit : Int
structure Wd where
  files : List File
  clock : Int
  cmds : List Bs
  exit : Int
def look (fs : List File) (p : Bs) : Option File := fs.find? (fun f => f.path == p)
def putF : List File → File → List File
  | [], f => [f]
  | g :: r, f => if g.path == f.path then f :: r else g :: putF r f
def addF (fs : List File) (f : File) : List File := if (look fs f.path).isSome then fs else fs ++ [f]
def newW (files : List File) (clock : Int) : Wd := ⟨files.foldl addF [], clock, [], 0⟩
def stamp (t : Int) (f : File) : File := ⟨f.path, f.text, t⟩
def giveW (ef : List Eff) (X : Wd) (c : Bs) : Wd :=
  match ef.find? (fun e => e.cmd == c) with
  | none => ⟨X.files, wrap64 (X.clock + 1), X.cmds ++ [c], X.exit⟩
  | some e => ⟨e.writes.foldl (fun fs f => putF fs (stamp (wrap64 (X.clock + 1)) f)) X.files, wrap64 (X.clock + 1), X.cmds ++ [c], e.exit⟩
def newer (fs : List File) (s t : Bs) : Bool := match look fs s, look fs t with
  | some a, some b => decide (a.time < b.time)
  | _, _ => false
/-- what an instruction does: the place behind, the stack, the flags, the world -/
def act (ss : List Bs) (ef : List Eff) (i : Ins) (st : List Bool) (fl : Nat → Bool) (X : Wd) : Nat × List Bool × (Nat → Bool) × Wd :=
  if i.op = 1 then (i.next, st ++ [i.first == 1], fl, X)
  else if i.op = 2 then (i.next, st ++ [(look X.files (ss.getD i.first [])).isNone], fl, X)
  else if i.op = 3 then (i.next, st ++ [newer X.files (ss.getD i.first []) (ss.getD i.second [])], fl, X)
  else if i.op = 4 then (i.next, st ++ [fl i.first], fl, X)
  else if i.op = 5 then (i.next, st.dropLast.dropLast ++ [st.getLast?.getD false || st.dropLast.getLast?.getD false], fl, X)
  else if i.op = 6 then (if st.getLast?.getD false then i.next else i.next + i.first, st.dropLast, fl, X)
  else if i.op = 7 then (i.next, st, fl, giveW ef X (ss.getD i.first []))
  else (i.next, st, fun q => if q = i.first then true else fl q, X)
def exec (c : Bs) (ss : List Bs) (ef : List Eff) : Nat → Nat → List Bool → (Nat → Bool) → Wd → Wd
  | 0, _, _, _, X => X
  | f + 1, p, st, fl, X => if p < c.length ∧ X.exit = 0 then
      exec c ss ef f (act ss ef (mkIns c p) st fl X).1 (act ss ef (mkIns c p) st fl X).2.1 (act ss ef (mkIns c p) st fl X).2.2.1 (act ss ef (mkIns c p) st fl X).2.2.2 else X
theorem exec_end {c : Bs} {ss : List Bs} {ef : List Eff} {f p : Nat} {st : List Bool} {fl : Nat → Bool} {X : Wd} (h : ¬ (p < c.length ∧ X.exit = 0)) : exec c ss ef f p st fl X = X := by
  cases f with
  | zero => rfl
  | succ f => rw [exec, if_neg h]
/-- the files by rising names -/
def insF (f : File) : List File → List File
  | [] => [f]
  | g :: r => if f.path < g.path then f :: g :: r else g :: insF f r
def sortF (fs : List File) : List File := fs.foldl (fun acc f => insF f acc) []

theorem look_put (fs : List File) (f : File) (q : Bs) : look (putF fs f) q = if f.path = q then some f else look fs q := by
  induction fs with
  | nil =>
    unfold putF look
    by_cases h : f.path = q
    · simp [h]
    · simp [h]
  | cons g r ih =>
    unfold putF
    by_cases hg : g.path = f.path
    · rw [if_pos (by simpa using hg)]
      unfold look
      by_cases h : f.path = q
      · simp [h]
      · have h' : ¬ g.path = q := by rw [hg]; exact h
        simp [h, h']
    · rw [if_neg (by simpa using hg)]
      unfold look at ih ⊢
      by_cases h : g.path = q
      · have hf : ¬ f.path = q := fun e => hg (h.trans e.symm)
        simp [h, hf]
      · rw [List.find?_cons_of_neg (by simpa using h), List.find?_cons_of_neg (by simpa using h)]
        exact ih
theorem look_append (fs : List File) (f : File) (q : Bs) : look (fs ++ [f]) q = (look fs q).or (if f.path = q then some f else none) := by
  unfold look
  rw [List.find?_append]
  congr 1
  by_cases h : f.path = q
  · simp [h]
  · simp [h]
theorem look_add (fs : List File) (f : File) (q : Bs) : look (addF fs f) q = (look fs q).or (if f.path = q then some f else none) := by
  unfold addF
  split
  · rename_i h
    by_cases e : f.path = q
    · subst e
      cases k : look fs f.path with
      | none => rw [k] at h; cases h
      | some x => rfl
    · rw [if_neg e, Option.or_none]
  · exact look_append fs f q
/-- no two files of one name -/
def Uniq (fs : List File) : Prop := (fs.map (·.path)).Nodup
theorem look_none {fs : List File} {q : Bs} : look fs q = none ↔ q ∉ fs.map (·.path) := by
  unfold look
  rw [List.find?_eq_none]
  simp
theorem uniq_add {fs : List File} {f : File} (h : Uniq fs) : Uniq (addF fs f) := by
  unfold addF
  split
  · exact h
  · rename_i k
    have : look fs f.path = none := by
      cases e : look fs f.path with
      | none => rfl
      | some x => rw [e] at k; exact absurd rfl k
    rw [look_none] at this
    unfold Uniq at *
    rw [List.map_append, List.nodup_append]
    exact ⟨h, by simp, fun a ha b hb => by simp at hb; subst hb; exact fun e => this (e ▸ ha)⟩
theorem put_paths (fs : List File) (f : File) : (putF fs f).map (·.path) = if f.path ∈ fs.map (·.path) then fs.map (·.path) else fs.map (·.path) ++ [f.path] := by
  induction fs with
  | nil => simp [putF]
  | cons g r ih =>
    unfold putF
    by_cases hg : g.path = f.path
    · rw [if_pos (by simpa using hg)]
      simp [hg]
    · rw [if_neg (by simpa using hg), List.map_cons, ih]
      have hg' : ¬ f.path = g.path := fun e => hg e.symm
      by_cases k : f.path ∈ r.map (·.path)
      · rw [if_pos k, if_pos (by simp only [List.map_cons, List.mem_cons]; exact .inr k)]; rfl
      · rw [if_neg k, if_neg (by simp only [List.map_cons, List.mem_cons]; exact fun e => e.elim hg' k)]; rfl
theorem uniq_put {fs : List File} {f : File} (h : Uniq fs) : Uniq (putF fs f) := by
  unfold Uniq at *
  rw [put_paths]
  split
  · exact h
  · rename_i k
    rw [List.nodup_append]
    exact ⟨h, by simp, fun a ha b hb => by simp at hb; subst hb; exact fun e => k (e ▸ ha)⟩
end Go.Pl
namespace Go.Pl
open Go Go.RowKit

theorem snd_at {c : Bs} {m : Nat} : ∀ {f p h : Nat} {A : Aw} {q x : Nat}, Snd c m f p h A → A q = some x → ∃ B, Spec c m q x B
  | 0, _, _, _, _, _, h, _ => h.elim
  | f + 1, p, h, A, q, x, hs, hx => by
    by_cases hqp : q = p
    · subst hqp
      have := hs.1 x hx
      subst this
      exact ⟨A, f + 1, hs⟩
    obtain ⟨_, ⟨hp, hw, ho, _, _, h6, hn⟩ | ⟨hp, _, hz⟩⟩ := hs
    · have : onward A (mkIns c p) h q = some x := by
        unfold onward put
        have hd : del A p q = some x := by unfold del; rw [if_neg hqp]; exact hx
        split
        · rename_i ho6
          dsimp only
          split
          · rename_i hq
            have := h6 ho6 x (by rw [← hq]; exact hd)
            rw [this]; rfl
          · exact hd
        · exact hd
      exact snd_at hn this
    · rw [hz q hqp] at hx; cases hx
theorem spec_at {c : Bs} {m p h q x : Nat} {A : Aw} (hs : Spec c m p h A) (hx : A q = some x) : ∃ B, Spec c m q x B := let ⟨_, hf⟩ := hs; snd_at hf hx
/-- the plan is sound from here on, with a stack of this height -/
def Sn (c : Bs) (m p h : Nat) : Prop := ∃ A, Spec c m p h A
theorem isz_ops {op : Nat} (h : isz op ≠ 0) : op = 1 ∨ op = 2 ∨ op = 3 ∨ op = 4 ∨ op = 5 ∨ op = 6 ∨ op = 7 ∨ op = 8 := by
  unfold isz at h
  split at h
  · omega
  · split at h
    · omega
    · split at h
      · omega
      · split at h
        · omega
        · exact absurd rfl h
structure Fits (c : Bs) (m p h : Nat) : Prop where
  whole : whole c p
  ops : okOps m (mkIns c p)
  taken : taken (opAt c p) ≤ h
  rise : rise (opAt c p) h ≤ 16
theorem Sn.fits {c : Bs} {m p h : Nat} (hs : Sn c m p h) (hp : p < c.length) : Fits c m p h := by
  obtain ⟨A, hA⟩ := hs
  obtain ⟨_, h1, h2, h3, h4, _⟩ := (spec_step hp).1 hA
  exact ⟨h1, h2, h3, h4⟩
theorem act_height {c : Bs} {p : Nat} {ss : List Bs} {ef : List Eff} {st : List Bool} {fl : Nat → Bool} {X : Wd} (hw : whole c p) (ht : taken (opAt c p) ≤ st.length) : (act ss ef (mkIns c p) st fl X).2.1.length = rise (opAt c p) st.length := by
  have ho : (mkIns c p).op = opAt c p := rfl
  unfold act rise
  rw [ho]
  rcases isz_ops hw.1 with h | h | h | h | h | h | h | h <;> rw [h] at ht ⊢ <;> simp [Pl.taken, pushed] at ht ⊢ <;> omega
theorem Sn.next {c : Bs} {m p : Nat} {ss : List Bs} {ef : List Eff} {st : List Bool} {fl : Nat → Bool} {X : Wd} (hs : Sn c m p st.length) (hp : p < c.length) :
    Sn c m (act ss ef (mkIns c p) st fl X).1 (act ss ef (mkIns c p) st fl X).2.1.length ∧ p < (act ss ef (mkIns c p) st fl X).1 := by
  have hf := hs.fits hp
  obtain ⟨A, hA⟩ := hs
  obtain ⟨_, h1, h2, h3, h4, h5, h6⟩ := (spec_step hp).1 hA
  rw [act_height hf.whole hf.taken]
  have ho : (mkIns c p).op = opAt c p := rfl
  have hn : (mkIns c p).next = p + isz (opAt c p) := rfl
  have hz := hf.whole.1
  by_cases h6' : opAt c p = 6
  · have e1 : (act ss ef (mkIns c p) st fl X).1 = if st.getLast?.getD false then (mkIns c p).next else (mkIns c p).next + (mkIns c p).first := by
      unfold act; rw [ho, h6']; simp
    rw [e1]
    split
    · exact ⟨⟨_, h6⟩, by omega⟩
    · refine ⟨spec_at h6 (q := (mkIns c p).next + (mkIns c p).first) (x := rise (opAt c p) st.length) ?_, by omega⟩
      unfold onward put
      rw [if_pos (by rw [ho]; exact h6')]
      simp [ho]
  · have e1 : (act ss ef (mkIns c p) st fl X).1 = (mkIns c p).next := by
      unfold act; rw [ho]
      rcases isz_ops hz with h | h | h | h | h | h | h | h <;> first | (exact absurd h h6') | (rw [h]; simp)
    rw [e1]
    exact ⟨⟨_, h6⟩, by omega⟩
/-- from here on the run ends in R -/
def Ends (c : Bs) (ss : List Bs) (ef : List Eff) (p : Nat) (st : List Bool) (fl : Nat → Bool) (X R : Wd) : Prop := ∃ f, c.length - p < f ∧ exec c ss ef f p st fl X = R
theorem Ends.stop {c : Bs} {ss : List Bs} {ef : List Eff} {p : Nat} {st : List Bool} {fl : Nat → Bool} {X R : Wd} (h : Ends c ss ef p st fl X R) (hn : ¬ (p < c.length ∧ X.exit = 0)) : X = R := by
  obtain ⟨f, _, hf⟩ := h
  rw [exec_end hn] at hf; exact hf
theorem Ends.step {c : Bs} {ss : List Bs} {ef : List Eff} {p : Nat} {st : List Bool} {fl : Nat → Bool} {X R : Wd} (h : Ends c ss ef p st fl X R) (hp : p < c.length) (hx : X.exit = 0) (hn : p < (act ss ef (mkIns c p) st fl X).1) :
    Ends c ss ef (act ss ef (mkIns c p) st fl X).1 (act ss ef (mkIns c p) st fl X).2.1 (act ss ef (mkIns c p) st fl X).2.2.1 (act ss ef (mkIns c p) st fl X).2.2.2 R := by
  obtain ⟨f, h1, h2⟩ := h
  cases f with
  | zero => omega
  | succ f =>
    rw [exec, if_pos ⟨hp, hx⟩] at h2
    exact ⟨f, by omega, h2⟩
/-- what a plan does in a world -/
def runW (c : Bs) (ss : List Bs) (ef : List Eff) (X : Wd) : Wd := exec c ss ef (c.length + 1) 0 [] (fun _ => false) X
theorem Ends.start (c : Bs) (ss : List Bs) (ef : List Eff) (X : Wd) : Ends c ss ef 0 [] (fun _ => false) X (runW c ss ef X) := ⟨c.length + 1, by omega, rfl⟩
end Go.Pl
namespace Go.Pl

theorem bg_trans {c : Bs} : ∀ {f p q r : Nat}, Bg c f p q → Beg c q r → Beg c p r
  | 0, _, _, _, h, _ => h.elim
  | _ + 1, _, _, _, .inl rfl, h => h
  | _ + 1, _, _, _, .inr ⟨hp, hw, h⟩, h' => let ⟨g, hg⟩ := bg_trans h h'; ⟨g + 1, .inr ⟨hp, hw, hg⟩⟩
theorem Beg.trans {c : Bs} {p q r : Nat} (h : Beg c p q) (h' : Beg c q r) : Beg c p r := let ⟨_, hf⟩ := h; bg_trans hf h'
theorem del_del (A : Aw) (p : Nat) : del (del A p) p = del A p := by
  funext q; unfold del; split <;> rfl
theorem onward_del (A : Aw) (i : Ins) (h p : Nat) (hp : i.at_ = p) : onward (del A p) i h = onward A i h := by
  unfold onward; rw [hp, del_del]
/-- what is awaited here may be struck -/
theorem spec_del {c : Bs} {m p h : Nat} {A : Aw} (ha : agrees A p h) : Spec c m p h A ↔ Spec c m p h (del A p) := by
  have hd : agrees (del A p) p h := by intro q e; unfold del at e; rw [if_pos rfl] at e; cases e
  by_cases hp : p < c.length
  · rw [spec_step hp, spec_step hp, del_del, onward_del A (mkIns c p) h p rfl]
    exact ⟨fun e => ⟨hd, e.2⟩, fun e => ⟨ha, e.2⟩⟩
  · rw [spec_end hp, spec_end hp]
    refine ⟨fun e => ⟨hd, e.2.1, fun q hq => ?_⟩, fun e => ⟨ha, e.2.1, fun q hq => ?_⟩⟩
    · unfold del; rw [if_neg hq]; exact e.2.2 q hq
    · have := e.2.2 q hq
      unfold del at this; rwa [if_neg hq] at this
def gset (g : Nat → Int) (i : Nat) (v : Int) : Nat → Int := fun q => if q = i then v else g q

structure HiInv (c : Bs) (m p cur h : Nat) (g : Nat → Int) (A : Aw) : Prop where
  ge : p ≤ cur
  beg : Beg c 0 cur
  gap : ∀ q, p ≤ q → q < cur → ¬ Beg c 0 q
  here : g cur = h
  h16 : h ≤ 16
  hi : ∀ q, cur < q → q ≤ c.length → (g q = -1 ∧ A q = none) ∨ ∃ x : Nat, g q = x ∧ A q = some x
  lo : ∀ q, q ≤ cur ∨ c.length < q → A q = none
  only : ∀ q x, A q = some x → Beg c 0 q
  spec : Spec c m 0 0 (fun _ => none) ↔ Spec c m cur h A
theorem HiInv.start (c : Bs) (m : Nat) (g : Nat → Int) (h0 : g 0 = 0) (h1 : ∀ q, 0 < q → q ≤ c.length → g q = -1) : HiInv c m 0 0 0 g (fun _ => none) :=
  ⟨Nat.le_refl _, beg_self c 0, fun q _ h => by omega, h0, by omega, fun q hq hl => .inl ⟨h1 q hq hl, rfl⟩, fun _ _ => rfl, fun _ _ e => (by cases e), Iff.rfl⟩
theorem HiInv.skip {c : Bs} {m p cur h : Nat} {g : Nat → Int} {A : Aw} (H : HiInv c m p cur h g A) (hn : ¬ Beg c 0 p) : HiInv c m (p + 1) cur h g A := by
  have : p ≠ cur := by rintro rfl; exact hn H.beg
  have := H.ge
  exact ⟨by omega, H.beg, fun q h1 h2 => H.gap q (by omega) h2, H.here, H.h16, H.hi, H.lo, H.only, H.spec⟩
theorem HiInv.at_ {c : Bs} {m p cur h : Nat} {g : Nat → Int} {A : Aw} (H : HiInv c m p cur h g A) (hb : Beg c 0 p) : cur = p := by
  have := H.ge
  rcases Nat.lt_or_ge p cur with h | h
  · exact absurd hb (H.gap p (Nat.le_refl _) h)
  · omega
theorem HiInv.done {c : Bs} {m cur h : Nat} {g : Nat → Int} {A : Aw} {p : Nat} (H : HiInv c m p cur h g A) (hp : ¬ p < c.length) : g c.length = h ∧ (Spec c m 0 0 (fun _ => none) ↔ h = 0) := by
  have h1 := H.ge
  have h2 := H.beg.le
  obtain rfl : cur = c.length := by omega
  refine ⟨H.here, ?_⟩
  rw [H.spec, spec_end (by omega)]
  refine ⟨fun e => e.2.1, fun e => ⟨fun q hq => ?_, e, fun q _ => H.lo q (by omega)⟩⟩
  rw [H.lo _ (.inl (Nat.le_refl _))] at hq; cases hq
/-- what is told of a place ahead, in the two tongues -/
theorem HiInv.agrees {c : Bs} {m p h : Nat} {g : Nat → Int} {A : Aw} (H : HiInv c m p p h g A) {q x : Nat} (hq : p < q) (hl : q ≤ c.length) : Pl.agrees A q x ↔ ¬ (0 ≤ g q ∧ g q ≠ x) := by
  unfold Pl.agrees
  rcases H.hi q hq hl with ⟨h1, h2⟩ | ⟨y, h1, h2⟩
  · rw [h1, h2]; simp
  · rw [h1, h2]
    simp only [Option.some.injEq]
    constructor
    · intro e; have := e y rfl; omega
    · rintro e z rfl; omega
theorem HiInv.delself {c : Bs} {m p h : Nat} {g : Nat → Int} {A : Aw} (H : HiInv c m p p h g A) : del A p = A := by
  funext q; unfold del
  split
  · rename_i e; subst e; exact (H.lo q (.inl (Nat.le_refl _))).symm
  · rfl
theorem HiInv.lowFails {c : Bs} {m p h : Nat} {g : Nat → Int} {A : Aw} (H : HiInv c m p p h g A) (hp : p < c.length) (hn : h < taken (opAt c p)) : ¬ Spec c m 0 0 (fun _ => none) := by
  rw [H.spec, spec_step hp]; rintro ⟨_, _, _, e, _⟩; omega
theorem HiInv.highFails {c : Bs} {m p h : Nat} {g : Nat → Int} {A : Aw} (H : HiInv c m p p h g A) (hp : p < c.length) (hn : 16 < rise (opAt c p) h) : ¬ Spec c m 0 0 (fun _ => none) := by
  rw [H.spec, spec_step hp]; rintro ⟨_, _, _, _, e, _⟩; omega
theorem onward6 {A : Aw} {i : Ins} {h : Nat} (h6 : i.op = 6) : onward A i h = put (del A i.at_) (i.next + i.first) (rise i.op h) := by unfold onward; rw [if_pos h6]
theorem onwardNot {A : Aw} {i : Ins} {h : Nat} (h6 : i.op ≠ 6) : onward A i h = del A i.at_ := by unfold onward; rw [if_neg h6]
theorem HiInv.farFails {c : Bs} {m p h : Nat} {g : Nat → Int} {A : Aw} (H : HiInv c m p p h g A) (hp : p < c.length) (h6 : opAt c p = 6) (hn : ¬ Beg c 0 ((mkIns c p).next + (mkIns c p).first)) : ¬ Spec c m 0 0 (fun _ => none) := by
  rw [H.spec, spec_step hp]
  rintro ⟨_, hw, _, _, _, _, hs⟩
  rw [onward6 h6] at hs
  have := spec_pos hs (q := (mkIns c p).next + (mkIns c p).first) (x := rise (opAt c p) h) (by unfold put; rw [if_pos rfl]; rfl)
  exact hn ((H.beg.next hp hw).trans this)
theorem HiInv.toFails {c : Bs} {m p h : Nat} {g : Nat → Int} {A : Aw} (H : HiInv c m p p h g A) (hp : p < c.length) (h6 : opAt c p = 6) (hl : (mkIns c p).next + (mkIns c p).first ≤ c.length)
    (hn : 0 ≤ g ((mkIns c p).next + (mkIns c p).first) ∧ g ((mkIns c p).next + (mkIns c p).first) ≠ (rise (opAt c p) h : Nat)) : ¬ Spec c m 0 0 (fun _ => none) := by
  rw [H.spec, spec_step hp]
  rintro ⟨_, hw, _, _, _, e, _⟩
  have := e h6
  rw [H.delself, H.agrees (by have := next_gt hw; omega) hl] at this
  exact this hn
/-- the heights behind an instruction, but for the one behind it -/
def gjump (c : Bs) (p h : Nat) (g : Nat → Int) : Nat → Int := if opAt c p = 6 then gset g ((mkIns c p).next + (mkIns c p).first) (rise (opAt c p) h : Nat) else g
theorem HiInv.onwardAt {c : Bs} {m p h : Nat} {g : Nat → Int} {A : Aw} (H : HiInv c m p p h g A) {q : Nat} (hq : p < q) (hl : q ≤ c.length) :
    (gjump c p h g q = -1 ∧ onward A (mkIns c p) h q = none) ∨ ∃ x : Nat, gjump c p h g q = x ∧ onward A (mkIns c p) h q = some x := by
  unfold gjump
  by_cases h6 : opAt c p = 6
  · rw [if_pos h6, onward6 h6]
    have : (mkIns c p).at_ = p := rfl
    rw [this, H.delself]
    unfold gset put
    by_cases e : q = (mkIns c p).next + (mkIns c p).first
    · rw [if_pos e, if_pos e]; exact .inr ⟨_, rfl, rfl⟩
    · rw [if_neg e, if_neg e]; exact H.hi q hq hl
  · rw [if_neg h6, onwardNot h6]
    have : (mkIns c p).at_ = p := rfl
    rw [this, H.delself]
    exact H.hi q hq hl
theorem HiInv.nextFails {c : Bs} {m p h : Nat} {g : Nat → Int} {A : Aw} (H : HiInv c m p p h g A) (hp : p < c.length) (hw : whole c p)
    (hn : 0 ≤ gjump c p h g (mkIns c p).next ∧ gjump c p h g (mkIns c p).next ≠ (rise (opAt c p) h : Nat)) : ¬ Spec c m 0 0 (fun _ => none) := by
  rw [H.spec, spec_step hp]
  rintro ⟨_, _, _, _, _, _, f, hs⟩
  cases f with
  | zero => exact hs
  | succ f =>
    have ha := hs.1
    rcases H.onwardAt (next_gt hw) (next_le hw) with ⟨h1, h2⟩ | ⟨y, h1, h2⟩
    · rw [h1] at hn; omega
    · have := ha y h2
      rw [h1] at hn; omega
theorem HiInv.step {c : Bs} {m p h : Nat} {g : Nat → Int} {A : Aw} (H : HiInv c m p p h g A) (hp : p < c.length) (hw : whole c p) (hok : okOps m (mkIns c p)) (h1 : taken (opAt c p) ≤ h) (h2 : rise (opAt c p) h ≤ 16)
    (h6 : opAt c p = 6 → Beg c 0 ((mkIns c p).next + (mkIns c p).first) ∧ ¬ (0 ≤ g ((mkIns c p).next + (mkIns c p).first) ∧ g ((mkIns c p).next + (mkIns c p).first) ≠ (rise (opAt c p) h : Nat)))
    (hn : ¬ (0 ≤ gjump c p h g (mkIns c p).next ∧ gjump c p h g (mkIns c p).next ≠ (rise (opAt c p) h : Nat))) :
    HiInv c m (p + 1) (mkIns c p).next (rise (opAt c p) h) (gset (gjump c p h g) (mkIns c p).next (rise (opAt c p) h : Nat)) (del (onward A (mkIns c p) h) (mkIns c p).next) := by
  have hgt := next_gt hw
  have hle := next_le hw
  have hag : Pl.agrees (onward A (mkIns c p) h) (mkIns c p).next (rise (opAt c p) h) := by
    intro y hy
    rcases H.onwardAt hgt hle with ⟨k1, k2⟩ | ⟨z, k1, k2⟩
    · rw [k2] at hy; cases hy
    · rw [k2] at hy; cases hy
      rw [k1] at hn; omega
  have hbeg := H.beg.next hp hw
  have hfar : ∀ q x, onward A (mkIns c p) h q = some x → Beg c 0 q := by
    intro q x e
    by_cases k : opAt c p = 6
    · rw [onward6 k] at e
      unfold put at e
      by_cases e2 : q = (mkIns c p).next + (mkIns c p).first
      · rw [e2]; exact (h6 k).1
      · rw [if_neg e2, show (mkIns c p).at_ = p from rfl, H.delself] at e; exact H.only q x e
    · rw [onwardNot k, show (mkIns c p).at_ = p from rfl, H.delself] at e; exact H.only q x e
  refine ⟨hgt, hbeg, fun q k1 k2 k3 => ?_, by unfold gset; rw [if_pos rfl], h2, fun q k1 k2 => ?_, fun q k => ?_, fun q x e => ?_, ?_⟩
  · rcases H.beg.gap k3 hp hw with k | k <;> omega
  · unfold gset del
    rw [if_neg (by omega), if_neg (by omega)]
    exact H.onwardAt (by omega) k2
  · unfold del
    split
    · rfl
    · rename_i hne
      cases e : onward A (mkIns c p) h q with
      | none => rfl
      | some x =>
        exfalso
        have hb := hfar q x e
        have hbl := hb.le
        rcases H.beg.gap hb hp hw with k' | k'
        · have h0 : onward A (mkIns c p) h q = none := by
            by_cases k6 : opAt c p = 6
            · rw [onward6 k6]; unfold put
              rw [if_neg (by omega), show (mkIns c p).at_ = p from rfl, H.delself]; exact H.lo q (.inl k')
            · rw [onwardNot k6, show (mkIns c p).at_ = p from rfl, H.delself]; exact H.lo q (.inl k')
          rw [h0] at e; cases e
        · omega
  · unfold del at e
    split at e
    · cases e
    · exact hfar q x e
  · rw [H.spec, spec_step hp, ← spec_del hag]
    refine ⟨fun e => e.2.2.2.2.2.2, fun e => ⟨fun y hy => ?_, hw, hok, h1, h2, fun k => ?_, e⟩⟩
    · rw [H.lo _ (.inl (Nat.le_refl _))] at hy; cases hy
    · obtain ⟨k1, k2⟩ := h6 k
      rw [H.delself, H.agrees (by omega) k1.le]
      exact k2
end Go.Pl
