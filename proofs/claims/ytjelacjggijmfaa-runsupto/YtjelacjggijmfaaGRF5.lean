/-
  The document's own answer: a command is given: what lies in memory.
  The document's own answer: what is told of a world.
-/
import Derived.Test.YtjelacjggijmfaaGRF3
namespace Go.Proofs.Ytjelacjggijmfaa
open Go.RowKit

theorem Row.cells5' {w : World} {b : Nat} {t : TypeId} {a0 a1 a2 a3 a4 : Value} (h : Row w b t [a0, a1, a2, a3, a4]) :
    w.cell? ⟨b, 0, none⟩ = some a0 ∧ w.cell? ⟨b, 1, none⟩ = some a1 ∧ w.cell? ⟨b, 2, none⟩ = some a2 ∧ w.cell? ⟨b, 3, none⟩ = some a3 ∧ w.cell? ⟨b, 4, none⟩ = some a4 := by
  unfold Row at h
  simp [World.cell?, h]
theorem put_new {fs : List Pl.File} {f : Pl.File} (h : Pl.look fs f.path = none) : Pl.putF fs f = fs ++ [f] := by
  induction fs with
  | nil => rfl
  | cons g r ih =>
    unfold Pl.look at h
    rw [List.find?_cons] at h
    split at h
    · cases h
    · rename_i hg
      unfold Pl.putF
      rw [if_neg (by rw [hg]; decide), ih h]; rfl
theorem put_old {fs : List Pl.File} {f : Pl.File} : ∀ {k : Nat} (hk : k < fs.length), fs[k].path = f.path → (∀ j (h : j < k), fs[j].path ≠ f.path) → Pl.putF fs f = fs.set k f := by
  induction fs with
  | nil => intro k hk; simp at hk
  | cons g r ih =>
    intro k hk he hn
    unfold Pl.putF
    cases k with
    | zero => rw [if_pos (by simpa using he)]; rfl
    | succ k =>
      rw [if_neg (by simpa using hn 0 (by omega)), List.set_cons_succ, ih (k := k) (by simpa using hk) (by simpa using he) (fun j hj => by simpa using hn (j + 1) (by omega))]
theorem put_at {fs : List Pl.File} {f : Pl.File} : (idxI fs f.path = -1 ∧ Pl.putF fs f = fs ++ [f]) ∨ ∃ (k : Nat) (_ : k < fs.length), idxI fs f.path = k ∧ Pl.putF fs f = fs.set k f := by
  unfold idxI
  cases e : at? fs f.path with
  | none =>
    left
    refine ⟨rfl, put_new ?_⟩
    unfold at? at e
    unfold Pl.look
    rw [List.findIdx?_eq_none_iff] at e
    rw [List.find?_eq_none]
    intro x hx
    simpa using e x hx
  | some k =>
    right
    unfold at? at e
    rw [List.findIdx?_eq_some_iff_getElem] at e
    obtain ⟨hk, h1, h2⟩ := e
    exact ⟨k, hk, rfl, put_old hk (by simpa using h1) (fun j hj => by simpa using h2 j hj)⟩
theorem nodup_le : ∀ (l S : List Pl.Bs), l.Nodup → (∀ p ∈ l, p ∈ S) → l.length ≤ S.length
  | [], _, _, _ => Nat.zero_le _
  | a :: r, S, h, hs => by
    obtain ⟨h1, h2⟩ := List.nodup_cons.1 h
    have ha := hs a (by simp)
    have := nodup_le r (S.erase a) h2 (fun p hp => (List.mem_erase_of_ne (show p ≠ a from fun e => h1 (by rw [← e]; exact hp))).2 (hs p (by simp [hp])))
    rw [List.length_erase_of_mem ha] at this
    have : 0 < S.length := List.length_pos_of_mem ha
    simp only [List.length_cons]
    omega
/-- Files of different names, all of them among S. -/
def Fit (S : List Pl.Bs) (fs : List Pl.File) : Prop := Pl.Uniq fs ∧ ∀ p ∈ fs.map (·.path), p ∈ S
theorem Fit.len {S : List Pl.Bs} {fs : List Pl.File} (h : Fit S fs) : fs.length ≤ S.length := by
  have := nodup_le _ S h.1 h.2
  simpa using this
theorem Fit.put {S : List Pl.Bs} {fs : List Pl.File} {f : Pl.File} (h : Fit S fs) (hf : f.path ∈ S) : Fit S (Pl.putF fs f) := by
  refine ⟨Pl.uniq_put h.1, fun p hp => ?_⟩
  rw [Pl.put_paths] at hp
  split at hp
  · exact h.2 p hp
  · simp only [List.mem_append, List.mem_singleton] at hp
    rcases hp with hp | rfl
    · exact h.2 p hp
    · exact hf
theorem Fit.add {S : List Pl.Bs} {fs : List Pl.File} {f : Pl.File} (h : Fit S fs) (hf : f.path ∈ S) : Fit S (Pl.addF fs f) := by
  refine ⟨Pl.uniq_add h.1, fun p hp => ?_⟩
  unfold Pl.addF at hp
  split at hp
  · exact h.2 p hp
  · simp only [List.map_append, List.map_cons, List.map_nil, List.mem_append, List.mem_singleton] at hp
    rcases hp with hp | rfl
    · exact h.2 p hp
    · exact hf
/-- No block has turned, but for those of files, of strings, of worlds. -/
def Kept (w W : World) : Prop := ∀ (k : Nat) (cur : Array Value) (e : TypeId) (fz : Nat × Nat), w.heap[k]? = some (Obj.cells cur e fz) → e ≠ 62 → e ≠ 9 → e ≠ 76 → W.heap[k]? = w.heap[k]?
theorem Kept.refl (w : World) : Kept w w := fun _ _ _ _ _ _ _ _ => rfl
theorem Kept.turn {w Y Z : World} (h : Kept w Y) (b : Option Nat) (hg : ∀ k, k < Y.heap.size → some k ≠ b → Z.heap[k]? = Y.heap[k]?)
    (hb : ∀ k, b = some k → ∃ cur e fz, Y.heap[k]? = some (.cells cur e fz) ∧ (e = 62 ∨ e = 9 ∨ e = 76)) : Kept w Z := fun k cur e fz hk h1 h2 h3 => by
  have hY := h k cur e fz hk h1 h2 h3
  have hlt : k < Y.heap.size := by
    rw [hk] at hY
    exact (Array.getElem?_eq_some_iff.1 hY).1
  rw [hg k hlt (fun e' => ?_), hY]
  obtain ⟨cur', e2, fz', h4, h5⟩ := hb k e'.symm
  rw [hY, hk] at h4
  cases h4
  rcases h5 with h5 | h5 | h5
  · exact h1 h5
  · exact h2 h5
  · exact h3 h5
theorem Kept.later {w Y Z : World} (h : Kept w Y) (hb : Below Y.heap.size Y Z) : Kept w Z := h.turn none (fun k hk _ => hb.block k hk) (fun _ e => by cases e)
theorem own_type {w : World} {B e size n : Nat} {v : Value} {xs : List Value} (h : w.ownsRow B e size v n xs) : ∀ k, v.ownBlock = some k → ∃ cur fz, w.heap[k]? = some (.cells cur e fz) := by
  intro k hk
  rcases h.2 with ⟨rfl, _⟩ | ⟨g, cap, cur, rfl, _, h3, _⟩
  · cases hk
  · cases hk; exact ⟨cur, _, h3⟩
theorem Kept.set {w Y : World} (h : Kept w Y) {b : Nat} (hb : ∃ cur e fz, Y.heap[b]? = some (.cells cur e fz) ∧ (e = 62 ∨ e = 9 ∨ e = 76)) (o : Nat) (u : Value) : Kept w (Y.setCell ⟨b, o, none⟩ u) :=
  h.turn (some b) (fun k _ hne => Below.heap_setCell Y ⟨b, o, none⟩ u k (fun e => hne (by rw [show k = b from e]))) (fun k e => by cases e; exact hb)
theorem Kept.own {w Y Z : World} {B e size n : Nat} {v : Value} {xs : List Value} (h : Kept w Y) (ho : Y.ownsRow B e size v n xs) (he : e = 62 ∨ e = 9 ∨ e = 76) (hg : Y.grownBy Z v.ownBlock) : Kept w Z :=
  h.turn v.ownBlock hg.block (fun k hk => by obtain ⟨cur, fz, h1⟩ := own_type ho k hk; exact ⟨cur, e, fz, h1, he⟩)
theorem Row.type {w : World} {b : Nat} {t : TypeId} {vs : List Value} (h : Row w b t vs) : ∃ cur e fz, w.heap[b]? = some (.cells cur e fz) ∧ e = t := ⟨_, _, _, h, rfl⟩
theorem RW.world {w : World} {B bx : Nat} {ve vf vc : Value} {X : Pl.Wd} (h : RW w B bx ve vf vc X) : ∃ cur e fz, w.heap[bx]? = some (.cells cur e fz) ∧ (e = 62 ∨ e = 9 ∨ e = 76) := ⟨_, _, _, h.row, .inr (.inr rfl)⟩
/-- While a command is given: what lies in memory; below bx nothing has turned. -/
structure GiveM (w : World) (B bx : Nat) (ve vf vc : Value) (X : Pl.Wd) (W : World) : Prop where
  rw : RW W B bx ve vf vc X
  below : Below bx w W
  kept : Kept w W
theorem GiveM.later {w : World} {B bx : Nat} {ve vf vc : Value} {X : Pl.Wd} {Y Z : World} (h : GiveM w B bx ve vf vc X Y) (hb : Below Y.heap.size Y Z) : GiveM w B bx ve vf vc X Z :=
  ⟨h.rw.later hb, h.below.trans (hb.mono (Nat.le_of_lt h.rw.row.lt)), h.kept.later hb⟩
theorem below_own {w X Y : World} {bx B : Nat} {e size n : Nat} {v : Value} {xs : List Value} (h : Below bx w X) (hx : bx < X.heap.size) (hB : bx < B) (ho : X.ownsRow B e size v n xs) (hg : X.grownBy Y v.ownBlock) : Below bx w Y :=
  h.trans ⟨hg.os, hg.tape, hg.output, hg.size, fun k hk => hg.block k (by omega) (own_ne ho (by omega))⟩
theorem GiveM.pushF {w : World} {B bx : Nat} {ve vf vf' vc : Value} {X : Pl.Wd} {Y Z : World} {f : Pl.File} (h : GiveM w B bx ve vf vc X Y) (hg : Y.grownBy Z vf.ownBlock) (hown : Z.ownsRow B 62 3 vf' (X.files.length + 1) (filesC X.files ++ fileC f)) :
    GiveM w B bx ve vf' vc ⟨X.files ++ [f], X.clock, X.cmds, X.exit⟩ (Z.setCell ⟨bx, 0, none⟩ vf') :=
  ⟨h.rw.push hg hown, (below_own h.below h.rw.row.lt h.rw.lt h.rw.files hg).setCell (p := ⟨bx, 0, none⟩) (Nat.le_refl _) _, (h.kept.own h.rw.files (.inl rfl) hg).set ⟨_, _, _, h.rw.row.grown hg (own_ne h.rw.files h.rw.lt), .inr (.inr rfl)⟩ _ _⟩
theorem GiveM.setF {w : World} {B bx cap g : Nat} {ve vc : Value} {X : Pl.Wd} {Y : World} (h : GiveM w B bx ve (.slice (some ⟨g, 0, none⟩) X.files.length cap) vc X Y) (k : Nat) (hk : k < X.files.length) (f : Pl.File) :
    GiveM w B bx ve (.slice (some ⟨g, 0, none⟩) X.files.length cap) vc ⟨X.files.set k f, X.clock, X.cmds, X.exit⟩ (((Y.setCell ⟨g, k * 3, none⟩ (strV f.path)).setCell ⟨g, k * 3 + 1, none⟩ (strV f.text)).setCell ⟨g, k * 3 + 2, none⟩ (.int .i64 f.time)) := by
  have hlt := h.rw.lt
  have hg := (h.rw.files.lt g rfl).1
  have hgs : some g = (Value.slice (some ⟨g, 0, none⟩) X.files.length cap).ownBlock := rfl
  have hc : ∀ j u, ∀ Z : World, Strs Z B vc X.cmds → (Fls Z B (.slice (some ⟨g, 0, none⟩) X.files.length cap) X.files ∨ True) → some g ≠ vc.ownBlock → Strs (Z.setCell ⟨g, j, none⟩ u) B vc X.cmds := fun j u Z hz _ hn => owns_other hz hn j u
  have hn : some g ≠ vc.ownBlock := by
    rcases apart h.rw.cmds h.rw.files (by decide) with e | e
    · rw [e]; simp
    · exact fun e' => e (by rw [← e']; rfl)
  have hlen : (X.files.set k f).length = X.files.length := by simp
  refine ⟨⟨((h.rw.row.other (by omega) _ _).other (by omega) _ _).other (by omega) _ _, ?_, owns_other (owns_other (owns_other h.rw.cmds hn _ _) hn _ _) hn _ _, hlt⟩,
    ((h.below.setCell (p := ⟨g, k * 3, none⟩) (by show bx ≤ g; omega) _).setCell (p := ⟨g, k * 3 + 1, none⟩) (by show bx ≤ g; omega) _).setCell (p := ⟨g, k * 3 + 2, none⟩) (by show bx ≤ g; omega) _, ?_⟩
  · exact h.rw.files.set k hk f
  · refine h.kept.turn (some g) (fun j _ hne => ?_) (fun j e => by cases e; obtain ⟨cur, fz, h1⟩ := own_type h.rw.files g rfl; exact ⟨cur, _, fz, h1, .inl rfl⟩)
    have hj : j ≠ g := fun e => hne (by rw [e])
    rw [Below.heap_setCell _ ⟨g, k * 3 + 2, none⟩ _ j hj, Below.heap_setCell _ ⟨g, k * 3 + 1, none⟩ _ j hj, Below.heap_setCell _ ⟨g, k * 3, none⟩ _ j hj]
theorem GiveM.pushC {w : World} {B bx : Nat} {ve vf vc vc' : Value} {X : Pl.Wd} {Y Z : World} {c : Pl.Bs} (h : GiveM w B bx ve vf vc X Y) (hg : Y.grownBy Z vc.ownBlock) (hown : Z.ownsRow B 9 1 vc' (X.cmds.length + 1) (X.cmds.map strV ++ [strV c])) :
    GiveM w B bx ve vf vc' ⟨X.files, X.clock, X.cmds ++ [c], X.exit⟩ (Z.setCell ⟨bx, 3, none⟩ vc') := by
  have hlt := h.rw.lt
  have hne := own_ne h.rw.cmds (N := bx) hlt
  refine ⟨⟨(h.rw.row.grown hg hne).set 3 vc', ?_, ?_, hlt⟩, (below_own h.below h.rw.row.lt hlt h.rw.cmds hg).setCell (p := ⟨bx, 3, none⟩) (Nat.le_refl _) _, (h.kept.own h.rw.cmds (.inr (.inl rfl)) hg).set ⟨_, _, _, h.rw.row.grown hg hne, .inr (.inr rfl)⟩ _ _⟩
  · have hf : Fls Z B vf X.files := by
      rcases apart h.rw.files h.rw.cmds (by decide) with e | e
      · exact World.ownsRow.kept h.rw.files hg (.inl e)
      · exact World.ownsRow.kept h.rw.files hg (.inr e)
    exact owns_other hf (own_ne hf hlt) 3 _
  · unfold Strs
    simp only [List.length_append, List.length_cons, List.length_nil, List.map_append, List.map_cons, List.map_nil]
    exact owns_other hown (own_ne hown hlt) 3 _
theorem GiveM.clock {w : World} {B bx : Nat} {ve vf vc : Value} {X : Pl.Wd} {Y : World} (h : GiveM w B bx ve vf vc X Y) (z : Int) : GiveM w B bx ve vf vc ⟨X.files, z, X.cmds, X.exit⟩ (Y.setCell ⟨bx, 1, none⟩ (.int .i64 z)) :=
  ⟨⟨h.rw.row.set 1 _, owns_other h.rw.files (own_ne h.rw.files h.rw.lt) 1 _, owns_other h.rw.cmds (own_ne h.rw.cmds h.rw.lt) 1 _, h.rw.lt⟩, h.below.setCell (p := ⟨bx, 1, none⟩) (Nat.le_refl _) _, h.kept.set h.rw.world _ _⟩
theorem GiveM.exit {w : World} {B bx : Nat} {ve vf vc : Value} {X : Pl.Wd} {Y : World} (h : GiveM w B bx ve vf vc X Y) (z : Int) : GiveM w B bx ve vf vc ⟨X.files, X.clock, X.cmds, z⟩ (Y.setCell ⟨bx, 4, none⟩ (.int .i64 z)) :=
  ⟨⟨h.rw.row.set 4 _, owns_other h.rw.files (own_ne h.rw.files h.rw.lt) 4 _, owns_other h.rw.cmds (own_ne h.rw.cmds h.rw.lt) 4 _, h.rw.lt⟩, h.below.setCell (p := ⟨bx, 4, none⟩) (Nat.le_refl _) _, h.kept.set h.rw.world _ _⟩
theorem RW.cells {w : World} {B bx : Nat} {ve vf vc : Value} {X : Pl.Wd} (h : RW w B bx ve vf vc X) : w.cell? ⟨bx, 0, none⟩ = some vf ∧ w.cell? ⟨bx, 1, none⟩ = some (.int .i64 X.clock) ∧ w.cell? ⟨bx, 2, none⟩ = some ve ∧ w.cell? ⟨bx, 3, none⟩ = some vc ∧ w.cell? ⟨bx, 4, none⟩ = some (.int .i64 X.exit) := h.row.cells5'
end Go.Proofs.Ytjelacjggijmfaa
namespace Go.Proofs.Ytjelacjggijmfaa
open Go.RowKit

theorem less_eq : ∀ (x y : List UInt8), Op.bytesLess x y = decide (x < y)
  | _, [] => by simp [Op.bytesLess]
  | [], _ :: _ => by simp [Op.bytesLess]
  | a :: x, b :: y => by
    rw [Op.bytesLess, less_eq x y, Bool.eq_iff_iff]
    simp [List.cons_lt_cons_iff]
/-- How far a file has been put in among those that are sorted. -/
structure InsI (f : Pl.File) (acc : List Pl.File) (k : Nat) (put : Bool) (l : List Pl.File) : Prop where
  eq : Pl.insF f acc = l ++ (if put then acc.drop k else Pl.insF f (acc.drop k))
  le : k ≤ acc.length
  len : l.length ≤ k + 1
theorem InsI.start (f : Pl.File) (acc : List Pl.File) : InsI f acc 0 false [] := ⟨rfl, Nat.zero_le _, by simp⟩
theorem drop_at {acc : List Pl.File} {k : Nat} (h : k < acc.length) : acc.drop k = acc[k] :: acc.drop (k + 1) := List.drop_eq_getElem_cons h
theorem InsI.past {f : Pl.File} {acc l : List Pl.File} {k : Nat} (h : InsI f acc k true l) (hk : k < acc.length) (hl : l.length ≤ k + 1) : InsI f acc (k + 1) true (l ++ [acc[k]]) := by
  refine ⟨?_, hk, by simp; omega⟩
  have := h.eq
  rw [if_pos rfl, drop_at hk] at this
  rw [this]; simp
theorem InsI.here {f : Pl.File} {acc l : List Pl.File} {k : Nat} (h : InsI f acc k false l) (hk : k < acc.length) (hlt : f.path < acc[k].path) (hl : l.length ≤ k) : InsI f acc (k + 1) true (l ++ [f] ++ [acc[k]]) := by
  refine ⟨?_, hk, by simp; omega⟩
  have := h.eq
  rw [if_neg (by decide), drop_at hk, Pl.insF, if_pos hlt] at this
  rw [this]; simp
theorem InsI.on {f : Pl.File} {acc l : List Pl.File} {k : Nat} (h : InsI f acc k false l) (hk : k < acc.length) (hlt : ¬ f.path < acc[k].path) (hl : l.length ≤ k) : InsI f acc (k + 1) false (l ++ [acc[k]]) := by
  refine ⟨?_, hk, by simp; omega⟩
  have := h.eq
  rw [if_neg (by decide), drop_at hk, Pl.insF, if_neg hlt] at this
  rw [this]; simp
theorem InsI.doneT {f : Pl.File} {acc l : List Pl.File} {k : Nat} (h : InsI f acc k true l) (hk : ¬ k < acc.length) : Pl.insF f acc = l := by
  have := h.eq
  rw [if_pos rfl, List.drop_eq_nil_of_le (by omega)] at this
  simpa using this
theorem InsI.doneF {f : Pl.File} {acc l : List Pl.File} {k : Nat} (h : InsI f acc k false l) (hk : ¬ k < acc.length) : Pl.insF f acc = l ++ [f] := by
  have := h.eq
  rw [if_neg (by decide), List.drop_eq_nil_of_le (by omega)] at this
  simpa [Pl.insF] using this
theorem ins_len (f : Pl.File) : ∀ acc : List Pl.File, (Pl.insF f acc).length = acc.length + 1
  | [] => rfl
  | g :: r => by
    unfold Pl.insF
    split
    · rfl
    · simp [ins_len f r]
theorem sort_take (fs : List Pl.File) (k : Nat) (h : k < fs.length) : Pl.sortF (fs.take (k + 1)) = Pl.insF fs[k] (Pl.sortF (fs.take k)) := by
  unfold Pl.sortF
  rw [List.take_succ_eq_append_getElem h, List.foldl_append]; rfl
theorem sort_len_aux : ∀ (fs acc : List Pl.File), (fs.foldl (fun acc f => Pl.insF f acc) acc).length = acc.length + fs.length
  | [], _ => rfl
  | f :: r, acc => by rw [List.foldl_cons, sort_len_aux r, ins_len]; simp; omega
theorem sort_len (fs : List Pl.File) : (Pl.sortF fs).length = fs.length := by unfold Pl.sortF; rw [sort_len_aux]; simp
/-- What is told: the two boxes, the files that are sorted so far. -/
structure ToldM (w : World) (vc vr : Value) (X : Pl.Wd) (acc : List Pl.File) (W : World) : Prop where
  res : Row W w.heap.size 45 [.slice none 0 0, .slice none 0 0, .int .i64 0, .int .i64 0]
  box : Row W (w.heap.size + 1) 45 [vc, vr, .int .i64 X.exit, .int .i64 X.clock]
  files : Fls W (w.heap.size + 2) vr acc
  below : Below w.heap.size w W
theorem ToldM.later {w : World} {vc vr : Value} {X : Pl.Wd} {acc : List Pl.File} {Y Z : World} (h : ToldM w vc vr X acc Y) (hb : Below Y.heap.size Y Z) : ToldM w vc vr X acc Z :=
  ⟨h.res.later hb, h.box.later hb, h.files.later hb, h.below.trans (hb.mono (by have := h.res.lt; omega))⟩
/-- .. and the list that is being made, behind Bl. -/
structure ToldL (w : World) (Bl : Nat) (vc vr vl : Value) (X : Pl.Wd) (acc l : List Pl.File) (W : World) : Prop where
  told : ToldM w vc vr X acc W
  list : Fls W Bl vl l
  ge : w.heap.size + 2 ≤ Bl
  apart : ∀ g, vr.ownBlock = some g → g < Bl
  size : Bl ≤ W.heap.size
theorem ToldL.later {w : World} {Bl : Nat} {vc vr vl : Value} {X : Pl.Wd} {acc l : List Pl.File} {Y Z : World} (h : ToldL w Bl vc vr vl X acc l Y) (hb : Below Y.heap.size Y Z) : ToldL w Bl vc vr vl X acc l Z :=
  ⟨h.told.later hb, h.list.later hb, h.ge, h.apart, Nat.le_trans h.size hb.size⟩
theorem ToldL.push {w : World} {Bl : Nat} {vc vr vl vl' : Value} {X : Pl.Wd} {acc l : List Pl.File} {Y Z : World} {f : Pl.File} (h : ToldL w Bl vc vr vl X acc l Y) (hg : Y.grownBy Z vl.ownBlock) (hown : Z.ownsRow Bl 62 3 vl' (l.length + 1) (filesC l ++ fileC f)) :
    ToldL w Bl vc vr vl' X acc (l ++ [f]) Z := by
  have hge := h.ge
  have hlo : ∀ n, n < Bl → some n ≠ vl.ownBlock := fun n hn => own_ne h.list hn
  refine ⟨⟨h.told.res.grown hg (hlo _ (by omega)), h.told.box.grown hg (hlo _ (by omega)), ?_, ?_⟩, ?_, hge, h.apart, Nat.le_trans h.size hg.size⟩
  · have hv : vr.ownBlock = none ∨ vr.ownBlock ≠ vl.ownBlock := by
      cases e : vr.ownBlock with
      | none => exact .inl rfl
      | some g => exact .inr (hlo g (h.apart g e))
    exact World.ownsRow.kept h.told.files hg hv
  · exact h.told.below.trans ⟨hg.os, hg.tape, hg.output, hg.size, fun k hk => hg.block k (by have := h.told.res.lt; omega) (hlo k (by omega))⟩
  · unfold Fls
    rw [filesC_snoc]
    have : (l ++ [f]).length = l.length + 1 := by simp
    rw [this]
    exact hown
theorem ToldL.done {w : World} {Bl : Nat} {vc vr vl : Value} {X : Pl.Wd} {acc l : List Pl.File} {Y : World} (h : ToldL w Bl vc vr vl X acc l Y) : ToldM w vc vl X l (Y.setCell ⟨w.heap.size + 1, 1, none⟩ vl) := by
  have hge := h.ge
  have hl2 : Fls Y (w.heap.size + 2) vl l := by
    refine ⟨h.list.1, ?_⟩
    rcases h.list.2 with q | ⟨g, cap, cur, h1, h2, h3⟩
    · exact .inl q
    · exact .inr ⟨g, cap, cur, h1, Nat.le_trans hge h2, h3⟩
  refine ⟨h.told.res.other (by omega) _ _, h.told.box.set 1 _, owns_other hl2 (own_ne hl2 (by omega)) 1 _, ?_⟩
  exact h.told.below.setCell (p := ⟨w.heap.size + 1, 1, none⟩) (Nat.le_succ _) _
end Go.Proofs.Ytjelacjggijmfaa
