/-
  The reader's memory: what a step makes of it.
  The reader's memory: the book, its rules, its rows; which block belongs to what.
-/
import Derived.Test.YtjelacjggijmfaaGreatDoorVGG1
namespace Go.Proofs.YtjelacjggijmfaaGreatDoor
open Go.RowKit Go.MapKept Go.ChangeMaps Go.Maps

/-- What a block belongs to. -/
inductive Tag where
  | rd | book | names | tgts | phony | pats
  | ent (n : Pl.Bs)
  | rule (i : Nat)
  | cmds (i : Nat)
abbrev Foot := Nat → Option Tag
/-- The row of this value belongs to this now, and no more the one before. -/
def Foot.own (F : Foot) (v v' : Value) (t : Tag) : Foot := fun k => if v'.ownBlock = some k then some t else if v.ownBlock = some k then none else F k
def Foot.put (F : Foot) (g : Nat) (t : Tag) : Foot := fun k => if k = g then some t else F k
/-- A rule: its targets, its needs, its commands with their lines. -/
structure Rl where
  tg : List Pl.Bs
  nd : List Pl.Bs
  cs : List (Pl.Bs × Nat)
/-- What was read so far. -/
structure St where
  names : NL
  rules : List Rl
  pats : List Nat
  first : Pl.Bs
  of : Pl.Bs → List Nat
  ph : List Pl.Bs
  n : Nat
  inc : Nat
  opn : Nat
  tl : Nat
/-- Where it lies. -/
structure Ad where
  rd : Nat
  bx : Nat
  bb : Nat
  nm : Nat
  bt : Nat
  pb : Nat
def ptrV (rb : Nat → Nat) (i : Nat) : Value := .pointer (some ⟨rb i, 0, none⟩)
def cmC (cs : List (Pl.Bs × Nat)) : List Value := cs.flatMap fun c => [strV c.1, .int .i64 (c.2 : Int)]
theorem cmC_len (cs : List (Pl.Bs × Nat)) : (cmC cs).length = cs.length * 2 := by
  unfold cmC
  induction cs with
  | nil => rfl
  | cons c r ih => rw [List.flatMap_cons, List.length_append, ih, List.length_cons]; simp; omega
theorem cmC_snoc (cs : List (Pl.Bs × Nat)) (c : Pl.Bs × Nat) : cmC (cs ++ [c]) = cmC cs ++ [strV c.1, .int .i64 (c.2 : Int)] := by
  unfold cmC
  rw [List.flatMap_append]
  simp
def PRow (W : World) (F : Foot) (t : Tag) (v : Value) (rb : Nat → Nat) (xs : List Nat) : Prop := W.ownsRow 0 265 1 v xs.length (xs.map (ptrV rb)) ∧ ∀ k, v.ownBlock = some k → F k = some t
def CRow (W : World) (F : Foot) (t : Tag) (v : Value) (cs : List (Pl.Bs × Nat)) : Prop := W.ownsRow 0 202 2 v cs.length (cmC cs) ∧ ∀ k, v.ownBlock = some k → F k = some t
def SlF (W : World) (F : Foot) (v : Value) (x : List Pl.Bs) : Prop := (v = .slice none 0 0 ∧ x = []) ∨ ∃ b o c, v = .slice (some ⟨b, o, none⟩) x.length c ∧ b < W.heap.size ∧ F b = none ∧ RdN W b o x ∧ (∃ cs fz, W.heap[b]? = some (Obj.cells cs 9 fz)) ∧ x.length ≤ c
/-- The types of what is turned. -/
def TyR (e : TypeId) : Prop := e = 186 ∨ e = 142 ∨ e = 273 ∨ e = 265 ∨ e = 202
structure RdM (W : World) (F : Foot) (c : Ad) (rb : Nat → Nat) (s : St) : Prop where
  ty : ∀ k t, F k = some t → k = c.nm ∨ k = c.bt ∨ k = c.pb ∨ ∃ cs e fz, W.heap[k]? = some (Obj.cells cs e fz) ∧ TyR e
  frd : F c.rd = some .rd
  fbb : F c.bb = some .book
  fnm : F c.nm = some .names
  fbt : F c.bt = some .tgts
  fpb : F c.pb = some .phony
  frb : ∀ i, i < s.rules.length → F (rb i) = some (.rule i)
  row : Row W c.rd 186 [.pointer (some ⟨c.bx, 0, none⟩), .pointer (some ⟨c.bb, 0, none⟩), .int .i64 (s.n : Int), .int .i64 (s.inc : Int), .int .i64 (s.opn : Int)]
  book : ∃ vp, BkR W c.bb c.nm c.bt c.pb vp s.first ∧ PRow W F .pats vp rb s.pats
  names : SMap W c.nm (nEnts s.names)
  phony : SMap W c.pb (mEnts s.ph)
  tgts : ∃ l, SMap W c.bt l ∧ l.length ≤ s.tl ∧ ∀ name, PRow W F (.ent name) ((mget l name).getD (.slice none 0 0)) rb (s.of name)
  rules : ∀ i r, s.rules[i]? = some r → ∃ vt vn vc, Row W (rb i) 273 [vt, vn, vc] ∧ SlF W F vt r.tg ∧ SlF W F vn r.nd ∧ CRow W F (.cmds i) vc r.cs
  pl : ∀ i ∈ s.pats, i < s.rules.length
  ol : ∀ name, ∀ i ∈ s.of name, i < s.rules.length
/-- What turned: nothing that belongs to no one. -/
structure Fr (F F' : Foot) (W W' : World) : Prop where
  tn : Tn (fun k => F k ≠ none) W W'
  old : ∀ k, k < W.heap.size → F k = none → F' k = none
theorem Fr.refl (F : Foot) (W : World) : Fr F F W W := ⟨Tn.refl _ _, fun _ _ e => e⟩
theorem Fr.trans {F G H : Foot} {W X Y : World} (h : Fr F G W X) (k : Fr G H X Y) : Fr F H W Y := by
  refine ⟨⟨k.tn.os.trans h.tn.os, k.tn.tape.trans h.tn.tape, k.tn.output.trans h.tn.output, Nat.le_trans h.tn.size k.tn.size, fun j hj hp => (k.tn.block j (Nat.lt_of_lt_of_le hj h.tn.size) (fun e => e (h.old j hj (Classical.not_not.1 hp)))).trans (h.tn.block j hj hp)⟩, fun j hj e => k.old j (Nat.lt_of_lt_of_le hj h.tn.size) (h.old j hj e)⟩
theorem Fr.later {F : Foot} {W X : World} (hb : Below W.heap.size W X) : Fr F F W X := ⟨Tn.later hb, fun _ _ e => e⟩
section
variable {W X : World} {F G : Foot} {t : Tag} {v : Value} {rb : Nat → Nat} {xs : List Nat} {cs : List (Pl.Bs × Nat)} {ws : List Pl.Bs}
/-- What is tagged so is as it was, and tagged so still. -/
def Same (F G : Foot) (t : Tag) (W X : World) : Prop := ∀ k, F k = some t → X.heap[k]? = W.heap[k]? ∧ G k = some t
theorem PRow.same (h : PRow W F t v rb xs) (hs : Same F G t W X) : PRow X G t v rb xs := ⟨own_same h.1 (fun k hk => (hs k (h.2 k hk)).1), fun k hk => (hs k (h.2 k hk)).2⟩
theorem CRow.same (h : CRow W F t v cs) (hs : Same F G t W X) : CRow X G t v cs := ⟨own_same h.1 (fun k hk => (hs k (h.2 k hk)).1), fun k hk => (hs k (h.2 k hk)).2⟩
theorem SlF.same (h : SlF W F v ws) (hsz : W.heap.size ≤ X.heap.size) (hs : ∀ k, k < W.heap.size → F k = none → X.heap[k]? = W.heap[k]? ∧ G k = none) : SlF X G v ws := by
  rcases h with h | ⟨b, o, c, h1, h2, h3, h4, h5⟩
  · exact .inl h
  · obtain ⟨q1, q2⟩ := hs b h2 h3
    refine .inr ⟨b, o, c, h1, by omega, q2, fun j x hj => ?_, by rw [q1]; exact h5⟩
    have := h4 j x hj
    unfold World.cell? at *
    rw [q1]
    exact this
theorem SlF.sls (h : SlF W F v ws) : SlS W v ws := by
  rcases h with h | ⟨b, o, c, h1, h2, h3, h4, h5⟩
  · exact .inl h
  · exact .inr ⟨b, o, c, h1, h2, h4⟩
theorem PRow.congr {rb' : Nat → Nat} (h : PRow W F t v rb xs) (he : ∀ i ∈ xs, rb' i = rb i) : PRow W F t v rb' xs := by
  refine ⟨?_, h.2⟩
  have : xs.map (ptrV rb') = xs.map (ptrV rb) := List.map_congr_left (fun i hi => by unfold ptrV; rw [he i hi])
  rw [this]
  exact h.1
end
/-- Only what is tagged so has turned. -/
structure Ch (p : Tag → Prop) (c : Ad) (F G : Foot) (W X : World) : Prop where
  tn : Tn (fun k => ∃ t, F k = some t ∧ p t) W X
  keep : ∀ k t, F k = some t → ¬ p t → G k = some t
  nil : ∀ k, k < W.heap.size → F k = none → G k = none
  ty : ∀ k t, G k = some t → k = c.nm ∨ k = c.bt ∨ k = c.pb ∨ ∃ cs e fz, X.heap[k]? = some (Obj.cells cs e fz) ∧ TyR e
section
variable {W X : World} {F G : Foot} {c : Ad} {rb : Nat → Nat} {s : St} {p : Tag → Prop}
theorem RdM.lt (h : RdM W F c rb s) {k : Nat} {t : Tag} (e : F k = some t) : k < W.heap.size := by
  rcases h.ty k t e with e | e | e | ⟨cs, e, fz, h1, -⟩
  · subst e; exact h.names.lt
  · obtain ⟨l, h1, -⟩ := h.tgts
    subst e; exact h1.lt
  · subst e; exact h.phony.lt
  · exact (Array.getElem?_eq_some_iff.1 h1).1
theorem Ch.fr (hc : Ch p c F G W X) : Fr F G W X := ⟨hc.tn.mono (fun k e => by obtain ⟨t, h1, -⟩ := e; rw [h1]; exact fun e => by cases e), hc.nil⟩
theorem Ch.block (hc : Ch p c F G W X) (h : RdM W F c rb s) {k : Nat} {t : Tag} (e : F k = some t) (hp : ¬ p t) : X.heap[k]? = W.heap[k]? :=
  hc.tn.block k (h.lt e) (fun q => by obtain ⟨t', q1, q2⟩ := q; rw [e] at q1; cases q1; exact hp q2)
theorem Ch.same (hc : Ch p c F G W X) (h : RdM W F c rb s) {t : Tag} (hp : ¬ p t) : Same F G t W X := fun k e => ⟨hc.block h e hp, hc.keep k t e hp⟩
theorem Ch.free (hc : Ch p c F G W X) {v : Value} {ws : List Pl.Bs} (h : SlF W F v ws) : SlF X G v ws :=
  h.same hc.tn.size (fun k hk e => ⟨hc.tn.block k hk (fun q => by obtain ⟨t', q1, -⟩ := q; rw [e] at q1; cases q1), hc.nil k hk e⟩)
theorem Ch.rowC (hc : Ch p c F G W X) (h : RdM W F c rb s) (hp : ¬ p .rd) : Row X c.rd 186 [.pointer (some ⟨c.bx, 0, none⟩), .pointer (some ⟨c.bb, 0, none⟩), .int .i64 (s.n : Int), .int .i64 (s.inc : Int), .int .i64 (s.opn : Int)] := (hc.block h h.frd hp).trans h.row
theorem Ch.bookC (hc : Ch p c F G W X) (h : RdM W F c rb s) (hp : ¬ p .book) (hq : ¬ p .pats) : ∃ vp, BkR X c.bb c.nm c.bt c.pb vp s.first ∧ PRow X G .pats vp rb s.pats := by
  obtain ⟨vp, h1, h2⟩ := h.book
  exact ⟨vp, (hc.block h h.fbb hp).trans h1, h2.same (hc.same h hq)⟩
theorem Ch.namesC (hc : Ch p c F G W X) (h : RdM W F c rb s) (hp : ¬ p .names) : SMap X c.nm (nEnts s.names) := h.names.of_block (hc.block h h.fnm hp)
theorem Ch.phonyC (hc : Ch p c F G W X) (h : RdM W F c rb s) (hp : ¬ p .phony) : SMap X c.pb (mEnts s.ph) := h.phony.of_block (hc.block h h.fpb hp)
theorem Ch.tgtsC (hc : Ch p c F G W X) (h : RdM W F c rb s) (hp : ¬ p .tgts) (hq : ∀ n, ¬ p (.ent n)) : ∃ l, SMap X c.bt l ∧ l.length ≤ s.tl ∧ ∀ name, PRow X G (.ent name) ((mget l name).getD (.slice none 0 0)) rb (s.of name) := by
  obtain ⟨l, h1, h2, h3⟩ := h.tgts
  exact ⟨l, h1.of_block (hc.block h h.fbt hp), h2, fun name => (h3 name).same (hc.same h (hq name))⟩
theorem Ch.ruleC (hc : Ch p c F G W X) (h : RdM W F c rb s) {i : Nat} (hp : ¬ p (.rule i)) (hq : ¬ p (.cmds i)) {r : Rl} (hr : s.rules[i]? = some r) : ∃ vt vn vc, Row X (rb i) 273 [vt, vn, vc] ∧ SlF X G vt r.tg ∧ SlF X G vn r.nd ∧ CRow X G (.cmds i) vc r.cs := by
  obtain ⟨vt, vn, vc, h1, h2, h3, h4⟩ := h.rules i r hr
  exact ⟨vt, vn, vc, (hc.block h (h.frb i (List.getElem?_eq_some_iff.1 hr).1) hp).trans h1, hc.free h2, hc.free h3, h4.same (hc.same h hq)⟩
/-- One block of cells, or a map, has turned. -/
theorem RdM.one (h : RdM W F c rb s) {x : Nat} {t0 : Tag} (ht : Tn (fun k => k = x) W X) (hx : F x = some t0) (hty : x = c.nm ∨ x = c.bt ∨ x = c.pb ∨ ∃ cs e fz, X.heap[x]? = some (Obj.cells cs e fz) ∧ TyR e) : Ch (fun t => t = t0) c F F W X := by
  refine ⟨ht.mono (fun k e => ⟨t0, by rw [e]; exact hx, rfl⟩), fun _ _ e _ => e, fun _ _ e => e, fun k t e => ?_⟩
  by_cases hk : k = x
  · rw [hk]; exact hty
  · rw [ht.block k (h.lt e) hk]; exact h.ty k t e
/-- Nothing that was there has turned. -/
theorem RdM.new (h : RdM W F c rb s) (hb : Below W.heap.size W X) {g : Nat} {t0 : Tag} (hg : W.heap.size ≤ g) (hty : ∃ cs e fz, X.heap[g]? = some (Obj.cells cs e fz) ∧ TyR e) : Ch (fun _ => False) c F (F.put g t0) W X := by
  refine ⟨Tn.later hb, fun k t e _ => ?_, fun k hk e => ?_, fun k t e => ?_⟩
  · unfold Foot.put
    rw [if_neg (by have := h.lt e; omega)]
    exact e
  · unfold Foot.put
    rw [if_neg (by omega)]
    exact e
  · unfold Foot.put at e
    split at e
    · next hk => rw [hk]; exact .inr (.inr (.inr hty))
    · rw [hb.block k (h.lt e)]; exact h.ty k t e
/-- A row of the book's own has grown. -/
theorem RdM.grow (h : RdM W F c rb s) {v v' : Value} {t0 : Tag} {e : TypeId} {size n : Nat} {xs : List Value} (hown : X.ownsRow 0 e size v' n xs) (hg : W.grownBy X v.ownBlock) (hv : ∀ k, v.ownBlock = some k → F k = some t0) (hf : v'.ownBlock = v.ownBlock ∨ v'.ownBlock = some W.heap.size) (he : TyR e) :
    Ch (fun t => t = t0) c F (F.own v v' t0) W X ∧ ∀ k, v'.ownBlock = some k → (F.own v v' t0) k = some t0 := by
  refine ⟨⟨Tn.grown hg (fun k e => ⟨t0, hv k e, rfl⟩), fun k t e hp => ?_, fun k hk e => ?_, fun k t q => ?_⟩, fun k hk => by unfold Foot.own; rw [if_pos hk]⟩
  · have h1 : v.ownBlock ≠ some k := fun q => by rw [hv k q] at e; cases e; exact hp rfl
    have h2 : v'.ownBlock ≠ some k := fun q => by
      rcases hf with hf | hf
      · exact h1 (hf ▸ q)
      · rw [hf] at q; cases q; have := h.lt e; omega
    unfold Foot.own
    rw [if_neg h2, if_neg h1]
    exact e
  · have h1 : v.ownBlock ≠ some k := fun q => by rw [hv k q] at e; cases e
    have h2 : v'.ownBlock ≠ some k := fun q => by
      rcases hf with hf | hf
      · exact h1 (hf ▸ q)
      · rw [hf] at q; cases q; omega
    unfold Foot.own
    rw [if_neg h2, if_neg h1]
    exact e
  · unfold Foot.own at q
    split at q
    · next hk =>
      obtain ⟨cur, fz, h3⟩ := own_type hown k hk
      exact .inr (.inr (.inr ⟨cur, _, fz, h3, he⟩))
    · split at q
      · cases q
      · next h1 h2 => rw [hg.block k (h.lt q) (fun e => h2 e.symm)]; exact h.ty k t q
theorem RdM.later (h : RdM W F c rb s) (hb : Below W.heap.size W X) : RdM X F c rb s := by
  have hc : Ch (fun _ => False) c F F W X := ⟨Tn.later hb, fun _ _ e _ => e, fun _ _ e => e, fun k t e => by rw [hb.block k (h.lt e)]; exact h.ty k t e⟩
  exact ⟨hc.ty, h.frd, h.fbb, h.fnm, h.fbt, h.fpb, h.frb, hc.rowC h id, hc.bookC h id id, hc.namesC h id, hc.phonyC h id, hc.tgtsC h id (fun _ => id), fun i r hr => hc.ruleC h id id hr, h.pl, h.ol⟩
end
end Go.Proofs.YtjelacjggijmfaaGreatDoor
namespace Go.Proofs.YtjelacjggijmfaaGreatDoor
open Go.RowKit Go.MapKept Go.ChangeMaps Go.Maps

def nPut : NL → Pl.Bs → Cp.Nv → NL
  | [], k, v => [(k, v)]
  | x :: r, k, v => if x.1 == k then (k, v) :: r else x :: nPut r k v
theorem nPut_ents (k : Pl.Bs) (v : Cp.Nv) : ∀ L : NL, mput (nEnts L) k (nvV v) = nEnts (nPut L k v)
  | [] => rfl
  | x :: r => by
    have ih := nPut_ents k v r
    unfold nEnts at *
    rw [List.map_cons, mput, nPut]
    cases hx : (x.1 == k) with
    | true => simp
    | false => simp [ih]
theorem nPut_len (k : Pl.Bs) (v : Cp.Nv) : ∀ L : NL, (nPut L k v).length ≤ L.length + 1
  | [] => Nat.le_refl _
  | x :: r => by
    have ih := nPut_len k v r
    rw [nPut]
    split
    · simp
    · simp only [List.length_cons]; omega
theorem nPut_short (k : Pl.Bs) (v : Cp.Nv) (hv : v.text.length ≤ 1073741824) : ∀ L : NL, Short L → Short (nPut L k v)
  | [], _, x, hx => by
    rw [nPut, List.mem_singleton] at hx
    subst hx
    exact hv
  | y :: r, h, x, hx => by
    rw [nPut] at hx
    split at hx
    · rcases List.mem_cons.1 hx with e | e
      · subst e; exact hv
      · exact h x (List.mem_cons_of_mem _ e)
    · rcases List.mem_cons.1 hx with e | e
      · subst e; exact h _ (List.mem_cons_self ..)
      · exact nPut_short k v hv r (fun z hz => h z (List.mem_cons_of_mem _ hz)) x e
def ofPut (of : Pl.Bs → List Nat) (t : Pl.Bs) (xs : List Nat) : Pl.Bs → List Nat := fun n => if n = t then xs else of n
def rbPut (rb : Nat → Nat) (i g : Nat) : Nat → Nat := fun j => if j = i then g else rb j
section
variable {W X Y : World} {F G : Foot} {c : Ad} {rb : Nat → Nat} {s : St} {p : Tag → Prop}
theorem Ch.then (hc : Ch p c F G W X) {x : Nat} {t1 : Tag} (ht : Tn (fun k => k = x) X Y) (hx : F x = some t1) (hty : x = c.nm ∨ x = c.bt ∨ x = c.pb ∨ ∃ cs e fz, Y.heap[x]? = some (Obj.cells cs e fz) ∧ TyR e) : Ch (fun t => p t ∨ t = t1) c F G W Y := by
  refine ⟨⟨ht.os.trans hc.tn.os, ht.tape.trans hc.tn.tape, ht.output.trans hc.tn.output, Nat.le_trans hc.tn.size ht.size, fun k hk hp => (ht.block k (Nat.lt_of_lt_of_le hk hc.tn.size) (fun e => hp ⟨t1, e ▸ hx, .inr rfl⟩)).trans (hc.tn.block k hk (fun ⟨t, q1, q2⟩ => hp ⟨t, q1, .inl q2⟩))⟩, fun k t e hp => hc.keep k t e (fun q => hp (.inl q)), hc.nil, fun k t e => ?_⟩
  by_cases hk : k = x
  · rw [hk]; exact hty
  · rcases hc.ty k t e with q | q | q | ⟨cs, e, fz, q1, q2⟩
    · exact .inl q
    · exact .inr (.inl q)
    · exact .inr (.inr (.inl q))
    · exact .inr (.inr (.inr ⟨cs, e, fz, (ht.block k (Array.getElem?_eq_some_iff.1 q1).1 hk).trans q1, q2⟩))
theorem row_ty {b : Nat} {e : TypeId} {vs : List Value} (h : Row X b e vs) (he : TyR e) : ∃ cs e fz, X.heap[b]? = some (Obj.cells cs e fz) ∧ TyR e := ⟨_, _, _, h, he⟩
theorem RdM.toNames (h : RdM W F c rb s) {L : NL} (ht : W.mapTurned X c.nm) (hs : SMap X c.nm (nEnts L)) : RdM X F c rb { s with names := L } ∧ Fr F F W X := by
  have hc := h.one (map_tn (p := fun k => k = c.nm) ht rfl) h.fnm (.inl rfl)
  exact ⟨⟨hc.ty, h.frd, h.fbb, h.fnm, h.fbt, h.fpb, h.frb, hc.rowC (s := s) h (fun e => by cases e), hc.bookC (s := s) h (fun e => by cases e) (fun e => by cases e), hs, hc.phonyC (s := s) h (fun e => by cases e), hc.tgtsC (s := s) h (fun e => by cases e) (fun _ e => by cases e), fun i r hr => hc.ruleC (s := s) h (fun e => by cases e) (fun e => by cases e) hr, h.pl, h.ol⟩, hc.fr⟩
theorem RdM.toPhony (h : RdM W F c rb s) {ph : List Pl.Bs} (ht : Tn (fun k => k = c.pb) W X) (hs : SMap X c.pb (mEnts ph)) : RdM X F c rb { s with ph := ph } ∧ Fr F F W X := by
  have hc := h.one ht h.fpb (.inr (.inr (.inl rfl)))
  exact ⟨⟨hc.ty, h.frd, h.fbb, h.fnm, h.fbt, h.fpb, h.frb, hc.rowC (s := s) h (fun e => by cases e), hc.bookC (s := s) h (fun e => by cases e) (fun e => by cases e), hc.namesC (s := s) h (fun e => by cases e), hs, hc.tgtsC (s := s) h (fun e => by cases e) (fun _ e => by cases e), fun i r hr => hc.ruleC (s := s) h (fun e => by cases e) (fun e => by cases e) hr, h.pl, h.ol⟩, hc.fr⟩
theorem RdM.toRd (h : RdM W F c rb s) {n inc opn : Nat} (ht : Tn (fun k => k = c.rd) W X) (hr : Row X c.rd 186 [.pointer (some ⟨c.bx, 0, none⟩), .pointer (some ⟨c.bb, 0, none⟩), .int .i64 (n : Int), .int .i64 (inc : Int), .int .i64 (opn : Int)]) : RdM X F c rb { s with n := n, inc := inc, opn := opn } ∧ Fr F F W X := by
  have hc := h.one ht h.frd (.inr (.inr (.inr (row_ty hr (.inl rfl)))))
  exact ⟨⟨hc.ty, h.frd, h.fbb, h.fnm, h.fbt, h.fpb, h.frb, hr, hc.bookC (s := s) h (fun e => by cases e) (fun e => by cases e), hc.namesC (s := s) h (fun e => by cases e), hc.phonyC (s := s) h (fun e => by cases e), hc.tgtsC (s := s) h (fun e => by cases e) (fun _ e => by cases e), fun i r hr => hc.ruleC (s := s) h (fun e => by cases e) (fun e => by cases e) hr, h.pl, h.ol⟩, hc.fr⟩
/-- A rule has come. -/
theorem RdM.toRule (h : RdM W F c rb s) (hb : Below W.heap.size W X) {g : Nat} (hg : W.heap.size ≤ g) {vt vn : Value} {tg nd : List Pl.Bs} (hr : Row X g 273 [vt, vn, .slice none 0 0]) (h1 : SlF X (F.put g (.rule s.rules.length)) vt tg) (h2 : SlF X (F.put g (.rule s.rules.length)) vn nd) :
    RdM X (F.put g (.rule s.rules.length)) c (rbPut rb s.rules.length g) { s with rules := s.rules ++ [⟨tg, nd, []⟩] } ∧ Fr F (F.put g (.rule s.rules.length)) W X := by
  have hc := h.new (t0 := .rule s.rules.length) hb hg (row_ty hr (.inr (.inr (.inl rfl))))
  have hne : ∀ i, i < s.rules.length → rbPut rb s.rules.length g i = rb i := fun i hi => by unfold rbPut; rw [if_neg (by omega)]
  have heq : rbPut rb s.rules.length g s.rules.length = g := by unfold rbPut; rw [if_pos rfl]
  refine ⟨⟨hc.ty, hc.keep _ _ h.frd id, hc.keep _ _ h.fbb id, hc.keep _ _ h.fnm id, hc.keep _ _ h.fbt id, hc.keep _ _ h.fpb id, fun i hi => ?_, hc.rowC (s := s) h id, ?_, hc.namesC (s := s) h id, hc.phonyC (s := s) h id, ?_, fun i r hr' => ?_, fun i hi => ?_, fun name i hi => ?_⟩, hc.fr⟩
  · simp only [List.length_append, List.length_cons, List.length_nil] at hi
    by_cases e : i = s.rules.length
    · subst e
      rw [heq]
      unfold Foot.put
      rw [if_pos rfl]
    · rw [hne i (by omega)]
      exact hc.keep _ _ (h.frb i (by omega)) id
  · obtain ⟨vp, q1, q2⟩ := hc.bookC (s := s) h id id
    exact ⟨vp, q1, q2.congr (fun i hi => hne i (h.pl i hi))⟩
  · obtain ⟨l, q1, q2, q3⟩ := hc.tgtsC (s := s) h id (fun _ => id)
    exact ⟨l, q1, q2, fun name => (q3 name).congr (fun i hi => hne i (h.ol name i hi))⟩
  · by_cases e : i < s.rules.length
    · rw [List.getElem?_append_left e] at hr'
      rw [hne i e]
      exact hc.ruleC (s := s) h id id hr'
    · have hi : i = s.rules.length := by
        have := (List.getElem?_eq_some_iff.1 hr').1
        simp only [List.length_append, List.length_cons, List.length_nil] at this
        omega
      subst hi
      rw [List.getElem?_append_right (Nat.le_refl _), Nat.sub_self] at hr'
      cases hr'
      rw [heq]
      exact ⟨vt, vn, .slice none 0 0, hr, h1, h2, World.ownsRow_nil _ _ _ _, fun k e => by cases e⟩
  · rw [List.length_append]; have := h.pl i hi; omega
  · rw [List.length_append]; have := h.ol name i hi; omega
/-- A pattern has come. -/
theorem RdM.toPat (h : RdM W F c rb s) {vp vp' : Value} {i : Nat} (hi : i < s.rules.length) (hB : BkR W c.bb c.nm c.bt c.pb vp s.first) (hP : PRow W F .pats vp rb s.pats) (hown : X.ownsRow 0 265 1 vp' (s.pats.length + 1) (s.pats.map (ptrV rb) ++ [ptrV rb i])) (hg : W.grownBy X vp.ownBlock) (hf : vp'.ownBlock = vp.ownBlock ∨ vp'.ownBlock = some W.heap.size) :
    RdM (X.setCell ⟨c.bb, 1, none⟩ vp') (F.own vp vp' .pats) c rb { s with pats := s.pats ++ [i] } ∧ Fr F (F.own vp vp' .pats) W (X.setCell ⟨c.bb, 1, none⟩ vp') := by
  obtain ⟨hc, ho⟩ := h.grow hown hg hP.2 hf (.inr (.inr (.inr (.inl rfl))))
  have hB2 : BkR X c.bb c.nm c.bt c.pb vp s.first := (hc.block h h.fbb (fun e => by cases e)).trans hB
  have hB3 : BkR (X.setCell ⟨c.bb, 1, none⟩ vp') c.bb c.nm c.bt c.pb vp' s.first := Row.set hB2 1 vp'
  have hne : some c.bb ≠ vp'.ownBlock := fun e => by
    obtain ⟨cur, fz, q⟩ := own_type hown c.bb e.symm
    unfold BkR Row at hB2
    rw [hB2] at q
    cases q
  have hc2 := hc.then (t1 := .book) (Tn.set (p := fun k => k = c.bb) X ⟨c.bb, 1, none⟩ vp' rfl) h.fbb (.inr (.inr (.inr (row_ty hB3 (.inr (.inl rfl))))))
  refine ⟨⟨hc2.ty, hc2.keep _ _ h.frd (by simp), hc.keep _ _ h.fbb (by simp), hc2.keep _ _ h.fnm (by simp), hc2.keep _ _ h.fbt (by simp), hc2.keep _ _ h.fpb (by simp), fun j hj => hc2.keep _ _ (h.frb j hj) (by simp), hc2.rowC (s := s) h (by simp), ⟨vp', hB3, ?_, ho⟩, hc2.namesC (s := s) h (by simp), hc2.phonyC (s := s) h (by simp), hc2.tgtsC (s := s) h (by simp) (by simp), fun j r hr => hc2.ruleC (s := s) h (by simp) (by simp) hr, fun j hj => ?_, h.ol⟩, hc2.fr⟩
  · have := owns_other hown hne 1 vp'
    simpa using this
  · rcases List.mem_append.1 hj with e | e
    · exact h.pl j e
    · rw [List.mem_singleton] at e; subst e; exact hi
theorem RdM.toFirst (h : RdM W F c rb s) (f : Pl.Bs) : RdM (W.setCell ⟨c.bb, 2, none⟩ (strV f)) F c rb { s with first := f } ∧ Fr F F W (W.setCell ⟨c.bb, 2, none⟩ (strV f)) := by
  obtain ⟨vp, hB, hP⟩ := h.book
  have hB2 : BkR (W.setCell ⟨c.bb, 2, none⟩ (strV f)) c.bb c.nm c.bt c.pb vp f := Row.set hB 2 (strV f)
  have hc := h.one (Tn.set (p := fun k => k = c.bb) W ⟨c.bb, 2, none⟩ (strV f) rfl) h.fbb (.inr (.inr (.inr (row_ty hB2 (.inr (.inl rfl))))))
  exact ⟨⟨hc.ty, h.frd, h.fbb, h.fnm, h.fbt, h.fpb, h.frb, hc.rowC (s := s) h (fun e => by cases e), ⟨vp, hB2, hP.same (hc.same h (fun e => by cases e))⟩, hc.namesC (s := s) h (fun e => by cases e), hc.phonyC (s := s) h (fun e => by cases e), hc.tgtsC (s := s) h (fun e => by cases e) (fun _ e => by cases e), fun i r hr => hc.ruleC (s := s) h (fun e => by cases e) (fun e => by cases e) hr, h.pl, h.ol⟩, hc.fr⟩
/-- A rule has come to a target. -/
theorem RdM.toOf (h : RdM W F c rb s) {l : Ents} {name : Pl.Bs} {v v' : Value} {i : Nat} (hi : i < s.rules.length) (hll : l.length ≤ s.tl) (hP : ∀ n, PRow W F (.ent n) ((mget l n).getD (.slice none 0 0)) rb (s.of n)) (hv : (mget l name).getD (.slice none 0 0) = v) (hown : X.ownsRow 0 265 1 v' ((s.of name).length + 1) ((s.of name).map (ptrV rb) ++ [ptrV rb i])) (hg : W.grownBy X v.ownBlock) (hf : v'.ownBlock = v.ownBlock ∨ v'.ownBlock = some W.heap.size) (hm : X.mapTurned Y c.bt) (hs : SMap Y c.bt (mput l name v')) :
    RdM Y (F.own v v' (.ent name)) c rb { s with of := ofPut s.of name (s.of name ++ [i]), tl := s.tl + 1 } ∧ Fr F (F.own v v' (.ent name)) W Y := by
  have hPn := hP name
  rw [hv] at hPn
  obtain ⟨hc, ho⟩ := h.grow hown hg hPn.2 hf (.inr (.inr (.inr (.inl rfl))))
  have hmt := map_tn (p := fun k => k = c.bt) hm rfl
  have hc2 := hc.then (t1 := .tgts) hmt h.fbt (.inr (.inl rfl))
  have hown2 : Y.ownsRow 0 265 1 v' ((s.of name).length + 1) ((s.of name).map (ptrV rb) ++ [ptrV rb i]) := own_same hown (fun k hk => hmt.block k (hown.lt k hk).2 (fun e => by
    obtain ⟨cur, fz, q⟩ := own_type hown k hk
    obtain ⟨es, clock, es', clock', hb, -⟩ := hm
    rw [e, hb] at q
    cases q))
  refine ⟨⟨hc2.ty, hc2.keep _ _ h.frd (by simp), hc2.keep _ _ h.fbb (by simp), hc2.keep _ _ h.fnm (by simp), hc.keep _ _ h.fbt (by simp), hc2.keep _ _ h.fpb (by simp), fun j hj => hc2.keep _ _ (h.frb j hj) (by simp), hc2.rowC (s := s) h (by simp), hc2.bookC (s := s) h (by simp) (by simp), hc2.namesC (s := s) h (by simp), hc2.phonyC (s := s) h (by simp), ⟨_, hs, ?_, fun n => ?_⟩, fun j r hr => hc2.ruleC (s := s) h (by simp) (by simp) hr, h.pl, fun n j hj => ?_⟩, hc2.fr⟩
  · have := mput_len l name v'
    show _ ≤ s.tl + 1
    omega
  · rw [mget_put]
    unfold ofPut
    by_cases e : n = name
    · subst e
      simp only [if_true, Option.getD_some]
      refine ⟨?_, ho⟩
      simpa using hown2
    · simp only [if_neg e, if_neg (Ne.symm e)]
      exact (hP n).same (hc2.same h (by simp; exact e))
  · simp only [ofPut] at hj
    split at hj
    · rcases List.mem_append.1 hj with e | e
      · exact h.ol name j e
      · rw [List.mem_singleton] at e; subst e; exact hi
    · exact h.ol n j hj
/-- A command has come to a rule. -/
theorem RdM.toCmd (h : RdM W F c rb s) {i : Nat} {r : Rl} {vt vn vc vc' : Value} (hr : s.rules[i]? = some r) (hR : Row W (rb i) 273 [vt, vn, vc]) (h1 : SlF W F vt r.tg) (h2 : SlF W F vn r.nd) (h3 : CRow W F (.cmds i) vc r.cs) {x : Pl.Bs × Nat} (hown : X.ownsRow 0 202 2 vc' (r.cs.length + 1) (cmC r.cs ++ [strV x.1, .int .i64 (x.2 : Int)])) (hg : W.grownBy X vc.ownBlock) (hf : vc'.ownBlock = vc.ownBlock ∨ vc'.ownBlock = some W.heap.size) :
    RdM (X.setCell ⟨rb i, 2, none⟩ vc') (F.own vc vc' (.cmds i)) c rb { s with rules := s.rules.set i { r with cs := r.cs ++ [x] } } ∧ Fr F (F.own vc vc' (.cmds i)) W (X.setCell ⟨rb i, 2, none⟩ vc') := by
  have hil := (List.getElem?_eq_some_iff.1 hr).1
  obtain ⟨hc, ho⟩ := h.grow hown hg h3.2 hf (.inr (.inr (.inr (.inr rfl))))
  have hR2 : Row X (rb i) 273 [vt, vn, vc] := (hc.block h (h.frb i hil) (fun e => by cases e)).trans hR
  have hR3 : Row (X.setCell ⟨rb i, 2, none⟩ vc') (rb i) 273 [vt, vn, vc'] := Row.set hR2 2 vc'
  have hne : some (rb i) ≠ vc'.ownBlock := fun e => by
    obtain ⟨cur, fz, q⟩ := own_type hown (rb i) e.symm
    unfold Row at hR2
    rw [hR2] at q
    cases q
  have hc2 := hc.then (t1 := .rule i) (Tn.set (p := fun k => k = rb i) X ⟨rb i, 2, none⟩ vc' rfl) (h.frb i hil) (.inr (.inr (.inr (row_ty hR3 (.inr (.inr (.inl rfl)))))))
  refine ⟨⟨hc2.ty, hc2.keep _ _ h.frd (by simp), hc2.keep _ _ h.fbb (by simp), hc2.keep _ _ h.fnm (by simp), hc2.keep _ _ h.fbt (by simp), hc2.keep _ _ h.fpb (by simp), fun j hj => ?_, hc2.rowC (s := s) h (by simp), hc2.bookC (s := s) h (by simp) (by simp), hc2.namesC (s := s) h (by simp), hc2.phonyC (s := s) h (by simp), hc2.tgtsC (s := s) h (by simp) (by simp), fun j r' hr' => ?_, fun j hj => ?_, fun n j hj => ?_⟩, hc2.fr⟩
  · rw [List.length_set] at hj
    exact hc.keep _ _ (h.frb j hj) (by simp)
  · by_cases e : j = i
    · subst e
      rw [List.getElem?_set_self hil] at hr'
      cases hr'
      refine ⟨vt, vn, vc', hR3, hc2.free h1, hc2.free h2, ?_, ho⟩
      rw [cmC_snoc, List.length_append]
      exact owns_other hown hne 2 vc'
    · rw [List.getElem?_set_ne (Ne.symm e)] at hr'
      exact hc2.ruleC (s := s) h (by simp; exact e) (by simp; exact e) hr'
  · rw [List.length_set]; exact h.pl j hj
  · rw [List.length_set]; exact h.ol n j hj
end
end Go.Proofs.YtjelacjggijmfaaGreatDoor
