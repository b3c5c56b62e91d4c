/-
  Which plans are sound, on lists of bytes: the form of a plan; its instructions; the walk over them.
-/
namespace Go.Pl
abbrev Bs := List UInt8
abbrev Aw := Nat → Option Nat

def two (c : Bs) (i : Nat) : Nat := 256 * (c.getD i 0).toNat + (c.getD (i + 1) 0).toNat
def isz (op : Nat) : Nat := if op = 1 ∨ op = 4 ∨ op = 8 then 2 else if op = 2 ∨ op = 6 ∨ op = 7 then 3 else if op = 3 then 5 else if op = 5 then 1 else 0
structure Ins where
  op : Nat
  at_ : Nat
  next : Nat
  first : Nat
  second : Nat
def opAt (c : Bs) (p : Nat) : Nat := (c.getD p 0).toNat
def mkIns (c : Bs) (p : Nat) : Ins :=
  ⟨opAt c p, p, p + isz (opAt c p), if isz (opAt c p) = 1 then 0 else if isz (opAt c p) = 2 then opAt c (p + 1) else two c (p + 1), if isz (opAt c p) = 5 then two c (p + 3) else 0⟩
def whole (c : Bs) (p : Nat) : Prop := isz (opAt c p) ≠ 0 ∧ p + isz (opAt c p) ≤ c.length
def okOps (m : Nat) (i : Ins) : Prop := (i.op = 1 → i.first ≤ 1) ∧ (i.op = 2 ∨ i.op = 7 → i.first < m) ∧ (i.op = 3 → i.first < m ∧ i.second < m)
def taken (op : Nat) : Nat := if op = 5 then 2 else if op = 6 then 1 else 0
def pushed (op : Nat) : Nat := if op = 1 ∨ op = 2 ∨ op = 3 ∨ op = 4 ∨ op = 5 then 1 else 0
def rise (op h : Nat) : Nat := h - taken op + pushed op
def del (A : Aw) (p : Nat) : Aw := fun q => if q = p then none else A q
def put (A : Aw) (p h : Nat) : Aw := fun q => if q = p then some h else A q
def agrees (A : Aw) (p h : Nat) : Prop := ∀ q, A p = some q → q = h
/-- what is awaited behind an instruction -/
def onward (A : Aw) (i : Ins) (h : Nat) : Aw := if i.op = 6 then put (del A i.at_) (i.next + i.first) (rise i.op h) else del A i.at_

def Snd (c : Bs) (m : Nat) : Nat → Nat → Nat → Aw → Prop
  | 0, _, _, _ => False
  | f + 1, p, h, A => agrees A p h ∧ ((p < c.length ∧ whole c p ∧ okOps m (mkIns c p) ∧ taken (opAt c p) ≤ h ∧ rise (opAt c p) h ≤ 16 ∧
      (opAt c p = 6 → agrees (del A p) ((mkIns c p).next + (mkIns c p).first) (rise (opAt c p) h)) ∧ Snd c m f (mkIns c p).next (rise (opAt c p) h) (onward A (mkIns c p) h)) ∨
    (¬ p < c.length ∧ h = 0 ∧ ∀ q, q ≠ p → A q = none))
def Spec (c : Bs) (m p h : Nat) (A : Aw) : Prop := ∃ f, Snd c m f p h A

theorem spec_end {c : Bs} {m p h : Nat} {A : Aw} (hp : ¬ p < c.length) : Spec c m p h A ↔ agrees A p h ∧ h = 0 ∧ ∀ q, q ≠ p → A q = none := by
  constructor
  · rintro ⟨f, hf⟩
    cases f with
    | zero => exact hf.elim
    | succ f =>
      obtain ⟨h1, h2 | h2⟩ := hf
      · exact absurd h2.1 hp
      · exact ⟨h1, h2.2⟩
  · rintro ⟨h1, h2⟩
    exact ⟨1, h1, .inr ⟨hp, h2⟩⟩
theorem spec_step {c : Bs} {m p h : Nat} {A : Aw} (hp : p < c.length) : Spec c m p h A ↔ agrees A p h ∧ whole c p ∧ okOps m (mkIns c p) ∧ taken (opAt c p) ≤ h ∧ rise (opAt c p) h ≤ 16 ∧
      (opAt c p = 6 → agrees (del A p) ((mkIns c p).next + (mkIns c p).first) (rise (opAt c p) h)) ∧ Spec c m (mkIns c p).next (rise (opAt c p) h) (onward A (mkIns c p) h) := by
  constructor
  · rintro ⟨f, hf⟩
    cases f with
    | zero => exact hf.elim
    | succ f =>
      obtain ⟨h1, h2 | h2⟩ := hf
      · obtain ⟨_, a, b, d, e, g, i⟩ := h2
        exact ⟨h1, a, b, d, e, g, f, i⟩
      · exact absurd hp h2.1
  · rintro ⟨h1, a, b, d, e, g, f, i⟩
    exact ⟨f + 1, h1, .inl ⟨hp, a, b, d, e, g, i⟩⟩

def Bg (c : Bs) : Nat → Nat → Nat → Prop
  | 0, _, _ => False
  | f + 1, p, q => q = p ∨ (p < c.length ∧ whole c p ∧ Bg c f (mkIns c p).next q)
def Beg (c : Bs) (p q : Nat) : Prop := ∃ f, Bg c f p q
theorem beg_self (c : Bs) (p : Nat) : Beg c p p := ⟨1, .inl rfl⟩
theorem beg_next {c : Bs} : ∀ {f p q : Nat}, Bg c f p q → q < c.length → whole c q → Beg c p (mkIns c q).next
  | 0, _, _, h, _, _ => h.elim
  | _ + 1, _, _, .inl rfl, hq, hw => ⟨2, .inr ⟨hq, hw, .inl rfl⟩⟩
  | _ + 1, _, _, .inr ⟨hp, hw', h⟩, hq, hw => let ⟨g, hg⟩ := beg_next h hq hw; ⟨g + 1, .inr ⟨hp, hw', hg⟩⟩
theorem Beg.next {c : Bs} {p q : Nat} (h : Beg c p q) (hq : q < c.length) (hw : whole c q) : Beg c p (mkIns c q).next := let ⟨_, hf⟩ := h; beg_next hf hq hw
theorem next_gt {c : Bs} {p : Nat} (hw : whole c p) : p < (mkIns c p).next := by have := hw.1; simp only [mkIns]; omega
theorem next_le {c : Bs} {p : Nat} (hw : whole c p) : (mkIns c p).next ≤ c.length := hw.2
theorem bg_ge {c : Bs} : ∀ {f p q : Nat}, Bg c f p q → p ≤ q
  | 0, _, _, h => h.elim
  | _ + 1, _, _, .inl rfl => Nat.le_refl _
  | _ + 1, _, _, .inr ⟨_, hw, h⟩ => Nat.le_trans (Nat.le_of_lt (next_gt hw)) (bg_ge h)
theorem bg_le {c : Bs} : ∀ {f p q : Nat}, Bg c f p q → p ≤ c.length → q ≤ c.length
  | 0, _, _, h, _ => h.elim
  | _ + 1, _, _, .inl rfl, hp => hp
  | _ + 1, _, _, .inr ⟨_, hw, h⟩, _ => bg_le h (next_le hw)
theorem Beg.le {c : Bs} {q : Nat} (h : Beg c 0 q) : q ≤ c.length := let ⟨_, hf⟩ := h; bg_le hf (Nat.zero_le _)
/-- between one beginning and the next there is none -/
theorem bg_gap {c : Bs} : ∀ {f g p a q : Nat}, Bg c f p a → Bg c g p q → a < c.length → whole c a → q ≤ a ∨ (mkIns c a).next ≤ q
  | 0, _, _, _, _, h, _, _, _ => h.elim
  | _, 0, _, _, _, _, h, _, _ => h.elim
  | _ + 1, _ + 1, _, _, _, .inl rfl, .inl rfl, _, _ => .inl (Nat.le_refl _)
  | _ + 1, _ + 1, _, _, _, .inl rfl, .inr ⟨_, _, h⟩, _, _ => .inr (bg_ge h)
  | _ + 1, _ + 1, _, _, _, .inr ⟨_, hw, h⟩, .inl rfl, _, _ => .inl (Nat.le_trans (Nat.le_of_lt (next_gt hw)) (bg_ge h))
  | _ + 1, _ + 1, _, _, _, .inr ⟨_, _, h⟩, .inr ⟨_, _, h'⟩, ha, hw => bg_gap h h' ha hw
theorem Beg.gap {c : Bs} {a q : Nat} (h : Beg c 0 a) (h' : Beg c 0 q) (ha : a < c.length) (hw : whole c a) : q ≤ a ∨ (mkIns c a).next ≤ q := let ⟨_, hf⟩ := h; let ⟨_, hg⟩ := h'; bg_gap hf hg ha hw
/-- in a sound plan each instruction that begins is whole and its operands may be -/
theorem snd_beg {c : Bs} {m : Nat} : ∀ {f p h : Nat} {A : Aw} {g q : Nat}, Snd c m f p h A → Bg c g p q → q < c.length → whole c q ∧ okOps m (mkIns c q)
  | 0, _, _, _, _, _, h, _, _ => h.elim
  | _ + 1, _, _, _, 0, _, _, h, _ => h.elim
  | f + 1, p, h, A, g + 1, q, hs, hb, hq => by
    obtain ⟨_, ⟨hp, hw, ho, _, _, _, hn⟩ | ⟨hp, _⟩⟩ := hs
    · rcases hb with rfl | ⟨_, _, hb⟩
      · exact ⟨hw, ho⟩
      · exact snd_beg hn hb hq
    · rcases hb with rfl | ⟨hp', _⟩
      · exact absurd hq hp
      · exact absurd hp' hp
theorem spec_beg {c : Bs} {m p h q : Nat} {A : Aw} (hs : Spec c m p h A) (hb : Beg c p q) (hq : q < c.length) : whole c q ∧ okOps m (mkIns c q) := let ⟨_, hf⟩ := hs; let ⟨_, hg⟩ := hb; snd_beg hf hg hq
/-- in a sound plan what is awaited is the beginning of an instruction, or the end -/
theorem snd_pos {c : Bs} {m : Nat} : ∀ {f p h : Nat} {A : Aw} {q x : Nat}, Snd c m f p h A → A q = some x → Beg c p q
  | 0, _, _, _, _, _, h, _ => h.elim
  | f + 1, p, h, A, q, x, hs, hx => by
    by_cases hqp : q = p
    · subst hqp; exact beg_self c q
    obtain ⟨_, ⟨hp, hw, ho, _, _, _, hn⟩ | ⟨hp, _, hz⟩⟩ := hs
    · have : ∃ y, onward A (mkIns c p) h q = some y := by
        unfold onward put del
        split
        · dsimp only
          split
          · exact ⟨_, rfl⟩
          · rw [if_neg (by exact hqp)]; exact ⟨x, hx⟩
        · dsimp only
          rw [if_neg (by exact hqp)]; exact ⟨x, hx⟩
      obtain ⟨y, hy⟩ := this
      obtain ⟨g, hg⟩ := snd_pos hn hy
      exact ⟨g + 1, .inr ⟨hp, hw, hg⟩⟩
    · rw [hz q hqp] at hx; cases hx
theorem spec_pos {c : Bs} {m p h q x : Nat} {A : Aw} (hs : Spec c m p h A) (hx : A q = some x) : Beg c p q := let ⟨_, hf⟩ := hs; snd_pos hf hx

/-- the strings of a plan, and what is behind them -/
def strs : Nat → Bs → Option (List Bs × Bs)
  | 0, r => some ([], r)
  | n + 1, r => if 2 ≤ r.length ∧ 2 + two r 0 ≤ r.length then (strs n (r.drop (2 + two r 0))).map fun x => ((r.drop 2).take (two r 0) :: x.1, x.2) else none
def load (s : Bs) : Option (List Bs × Bs) := if 4 ≤ s.length ∧ s.take 2 = [80, 49] ∧ two s 2 ≤ 1000 then strs (two s 2) (s.drop 4) else none
def checkOf (s : Bs) : Prop := ∃ x, load s = some x ∧ Spec x.2 x.1.length 0 0 (fun _ => none)

theorem strs_len : ∀ (n : Nat) (r : Bs) (x : List Bs × Bs), strs n r = some x → x.1.length = n ∧ x.2.length ≤ r.length
  | 0, r, x, h => by cases h; exact ⟨rfl, Nat.le_refl _⟩
  | n + 1, r, x, h => by
    unfold strs at h
    split at h
    · cases e : strs n (r.drop (2 + two r 0)) with
      | none => rw [e] at h; cases h
      | some y =>
        rw [e] at h
        cases h
        have := strs_len n _ y e
        simp only [List.length_cons, List.length_drop] at this ⊢
        omega
    · cases h
/-- strings that have come, and those that are to come -/
theorem strs_from (n : Nat) (r : Bs) (h : 2 ≤ r.length ∧ 2 + two r 0 ≤ r.length) (acc : List Bs) :
    (strs (n + 1) r).map (fun x => (acc ++ x.1, x.2)) = (strs n (r.drop (2 + two r 0))).map (fun x => ((acc ++ [(r.drop 2).take (two r 0)]) ++ x.1, x.2)) := by
  rw [strs, if_pos h, Option.map_map]
  congr 1
  funext x
  simp
theorem strs_not (n : Nat) (r : Bs) (h : ¬ (2 ≤ r.length ∧ 2 + two r 0 ≤ r.length)) : strs (n + 1) r = none := by rw [strs, if_neg h]

/-- the instructions, one behind the other; the first that is none, or not whole, ends it -/
def ilist (c : Bs) : Nat → Nat → List (Ins × Bool)
  | 0, _ => []
  | f + 1, p => if p < c.length then (if isz (opAt c p) ≠ 0 ∧ p + isz (opAt c p) ≤ c.length then (mkIns c p, true) :: ilist c f (mkIns c p).next else [(⟨0, 0, 0, 0, 0⟩, false)]) else []
theorem opAt_lt (c : Bs) (p : Nat) : opAt c p < 256 := (c.getD p 0).toNat_lt
theorem two_lt (c : Bs) (p : Nat) : two c p < 65536 := by
  have h1 := (c.getD p 0).toNat_lt
  have h2 := (c.getD (p + 1) 0).toNat_lt
  unfold two; omega
end Go.Pl
