/-
  The reader: a text is read: the memory between two lines.
-/
import Derived.Test.YtjelacjggijmfaaGreatDoorQGD7
import Derived.Test.YtjelacjggijmfaaGreatDoorQI2
namespace Go.Proofs.YtjelacjggijmfaaGreatDoor
open Go.RowKit Go.MapKept Go.ChangeMaps Go.Maps

section
variable {w W X Y : World} {F G G' : Foot} {c : Ad} {rb rb' : Nat → Nat} {s s' : St} {v3 : Value} {er num : Nat}
theorem RdM.keep (h : RdM X F c rb s) (hsz : X.heap.size ≤ Y.heap.size) (hs : ∀ k t, F k = some t → Y.heap[k]? = X.heap[k]?) (hst : ∀ (k : Nat) (cs : Array Value) (fz : Nat × Nat), X.heap[k]? = some (Obj.cells cs 9 fz) → Y.heap[k]? = X.heap[k]?) : RdM Y F c rb s := by
  have hP : ∀ {t v xs}, PRow X F t v rb xs → PRow Y F t v rb xs := fun h => h.same (fun k e => ⟨hs k _ e, e⟩)
  have hC : ∀ {t v xs}, CRow X F t v xs → CRow Y F t v xs := fun h => h.same (fun k e => ⟨hs k _ e, e⟩)
  have hS : ∀ {v ws}, SlF X F v ws → SlF Y F v ws := fun h => by
    rcases h with h | ⟨b, o, c, h1, h2, h3, h4, ⟨cs, fz, h5⟩, h6⟩
    · exact .inl h
    · have q := hst b cs fz h5
      refine .inr ⟨b, o, c, h1, by omega, h3, fun j x hj => ?_, ⟨cs, fz, q.trans h5⟩, h6⟩
      have := h4 j x hj
      unfold World.cell? at *
      rw [q]
      exact this
  obtain ⟨vp, b1, b2⟩ := h.book
  obtain ⟨l, t1, t2, t3⟩ := h.tgts
  refine ⟨fun k t e => ?_, h.frd, h.fbb, h.fnm, h.fbt, h.fpb, h.frb, (hs _ _ h.frd).trans h.row, ⟨vp, (hs _ _ h.fbb).trans b1, hP b2⟩, h.names.of_block (hs _ _ h.fnm), h.phony.of_block (hs _ _ h.fpb), ⟨l, t1.of_block (hs _ _ h.fbt), t2, fun name => hP (t3 name)⟩, fun i r hr => ?_, h.pl, h.ol⟩
  · rw [hs k t e]; exact h.ty k t e
  · obtain ⟨vt, vn, vc, q1, q2, q3, q4⟩ := h.rules i r hr
    exact ⟨vt, vn, vc, (hs _ _ (h.frb i (List.getElem?_eq_some_iff.1 hr).1)).trans q1, hS q2, hS q3, hC q4⟩
theorem RdM.map (h : RdM X F c rb s) : (∃ es clock, X.heap[c.nm]? = some (.map es clock)) ∧ (∃ es clock, X.heap[c.bt]? = some (.map es clock)) ∧ (∃ es clock, X.heap[c.pb]? = some (.map es clock)) := by
  obtain ⟨e1, k1, h1, -⟩ := h.names
  obtain ⟨l, ⟨e2, k2, h2, -⟩, -⟩ := h.tgts
  obtain ⟨e3, k3, h3, -⟩ := h.phony
  exact ⟨⟨e1, k1, h1⟩, ⟨e2, k2, h2⟩, ⟨e3, k3, h3⟩⟩
/-- Cells of another type belong to no one. -/
theorem RdM.alien (h : RdM X F c rb s) {k : Nat} {cs : Array Value} {e : TypeId} {fz : Nat × Nat} (hk : X.heap[k]? = some (Obj.cells cs e fz)) (he : ¬ TyR e) : F k = none := by
  cases hf : F k with
  | none => rfl
  | some t =>
    obtain ⟨⟨e1, k1, h1⟩, ⟨e2, k2, h2⟩, ⟨e3, k3, h3⟩⟩ := h.map
    rcases h.ty k t hf with q | q | q | ⟨cs', e', fz', q1, q2⟩
    · rw [q, h1] at hk; cases hk
    · rw [q, h2] at hk; cases hk
    · rw [q, h3] at hk; cases hk
    · rw [q1] at hk; cases hk; exact absurd q2 he
/-- What is no cells belongs to no one, but for the maps. -/
theorem RdM.rest (h : RdM X F c rb s) {k : Nat} {o : Obj} (hk : X.heap[k]? = some o) (ho : o.isCells = false) (h1 : k ≠ c.nm) (h2 : k ≠ c.bt) (h3 : k ≠ c.pb) : F k = none := by
  cases hf : F k with
  | none => rfl
  | some t =>
    rcases h.ty k t hf with q | q | q | ⟨cs', e', fz', q1, q2⟩
    · exact absurd q h1
    · exact absurd q h2
    · exact absurd q h3
    · rw [q1] at hk; cases hk; cases ho
theorem RdM.keeps (h : RdM X F c rb s) (f : Fr F G X Y) {B : Nat} (h1 : c.nm < B) (h2 : c.bt < B) (h3 : c.pb < B) : KeepsFrom B X Y :=
  ⟨f.tn.size, fun k o hk ho hc => (f.tn.block k (Array.getElem?_eq_some_iff.1 ho).1 (fun e => e (h.rest ho hc (by omega) (by omega) (by omega)))).trans ho⟩
theorem RdM.kpa (h : RdM X F c rb s) (f : Fr F G X Y) (hg : Glob X → Glob Y) {l : Nat} (h1 : c.nm ≤ l) (h2 : c.bt ≤ l) (h3 : c.pb ≤ l) : KpA l X Y :=
  ⟨hg, fun k cs fz hk => (f.tn.block k (Array.getElem?_eq_some_iff.1 hk).1 (fun e => e (h.alien hk (by unfold TyR; decide)))).trans hk, fun k o hk ho hc => (f.tn.block k (Array.getElem?_eq_some_iff.1 ho).1 (fun e => e (h.rest ho hc (by omega) (by omega) (by omega)))).trans ho, f.tn.size⟩
theorem keepsSet {b o B : Nat} {t : TypeId} {vs : List Value} (h : Row X b t vs) (u : Value) : KeepsFrom B X (X.setCell ⟨b, o, none⟩ u) := by
  refine ⟨by simp [World.setCell], fun k ob _ ho hc => (Below.heap_setCell X ⟨b, o, none⟩ u k (fun e => ?_)).trans ho⟩
  unfold Row at h
  simp only at e
  rw [e, h] at ho
  cases ho
  cases hc
structure ReM (w : World) (F : Foot) (c : Ad) (G : Foot) (rb : Nat → Nat) (s : St) (v3 : Value) (er num : Nat) (W : World) : Prop where
  mem : RdM W G c rb s
  fr : Fr F G w W
  r0 : Row W w.heap.size 264 [.pointer (some ⟨c.rd, 0, none⟩)]
  r1 : Row W (w.heap.size + 1) 24 [.int .i64 (er : Int)]
  r2 : Row W (w.heap.size + 2) 3 [.int .i64 (num : Int)]
  r3 : Row W (w.heap.size + 3) 265 [v3]
  g0 : G w.heap.size = none
  g1 : G (w.heap.size + 1) = none
  g2 : G (w.heap.size + 2) = none
  g3 : G (w.heap.size + 3) = none
theorem ReM.step (h : ReM w F c G rb s v3 er num X) (m : RdM Y G' c rb' s') (f : Fr G G' X Y) : ReM w F c G' rb' s' v3 er num Y :=
  ⟨m, h.fr.trans f, h.r0.tn f.tn (fun e => e h.g0), h.r1.tn f.tn (fun e => e h.g1), h.r2.tn f.tn (fun e => e h.g2), h.r3.tn f.tn (fun e => e h.g3), f.old _ h.r0.lt h.g0, f.old _ h.r1.lt h.g1, f.old _ h.r2.lt h.g2, f.old _ h.r3.lt h.g3⟩
theorem ReM.later (h : ReM w F c G rb s v3 er num X) (hb : Below X.heap.size X Y) : ReM w F c G rb s v3 er num Y := h.step (h.mem.later hb) (Fr.later hb)
theorem fr_set {n b : Nat} (h : Fr F G w X) (hn : w.heap.size = n) (hb : n ≤ b) (o : Nat) (u : Value) : Fr F G w (X.setCell ⟨b, o, none⟩ u) :=
  ⟨⟨h.tn.os, h.tn.tape, h.tn.output, by have := h.tn.size; simpa [World.setCell] using this, fun k hk hp => (Below.heap_setCell X ⟨b, o, none⟩ u k (by simp only; omega)).trans (h.tn.block k hk hp)⟩, h.old⟩
/-- A cell that belongs to no one, of another type than strings, is set. -/
theorem RdM.away (h : RdM X F c rb s) {b o : Nat} {t : TypeId} {vs : List Value} (hr : Row X b t vs) (ht : t ≠ 9) (hF : F b = none) (u : Value) : RdM (X.setCell ⟨b, o, none⟩ u) F c rb s := by
  refine h.keep (by simp [World.setCell]) (fun k tt e => Below.heap_setCell X ⟨b, o, none⟩ u k (fun q => ?_)) (fun k cs fz e => Below.heap_setCell X ⟨b, o, none⟩ u k (fun q => ?_))
  · simp only at q; rw [q, hF] at e; cases e
  · simp only at q
    unfold Row at hr
    rw [q, hr] at e
    cases e
    exact ht rfl
theorem ReM.open (h : ReM w F c G rb s v3 er num X) (u : Value) : ReM w F c G rb s u er num (X.setCell ⟨w.heap.size + 3, 0, none⟩ u) :=
  ⟨h.mem.away h.r3 (by decide) h.g3 u, fr_set h.fr rfl (by omega) _ _, h.r0.other (by omega) _ _, h.r1.other (by omega) _ _, h.r2.other (by omega) _ _, h.r3.set 0 u, h.g0, h.g1, h.g2, h.g3⟩
theorem ReM.leave (h : ReM w F c G rb s v3 er num X) (e2 n2 : Nat) : ReM w F c G rb s v3 e2 n2 ((X.setCell ⟨w.heap.size + 1, 0, none⟩ (.int .i64 (e2 : Int))).setCell ⟨w.heap.size + 2, 0, none⟩ (.int .i64 (n2 : Int))) := by
  have a1 : ReM w F c G rb s v3 e2 num (X.setCell ⟨w.heap.size + 1, 0, none⟩ (.int .i64 (e2 : Int))) := ⟨h.mem.away h.r1 (by decide) h.g1 _, fr_set h.fr rfl (by omega) _ _, h.r0.other (by omega) _ _, h.r1.set 0 _, h.r2.other (by omega) _ _, h.r3.other (by omega) _ _, h.g0, h.g1, h.g2, h.g3⟩
  exact ⟨a1.mem.away a1.r2 (by decide) a1.g2 _, fr_set a1.fr rfl (by omega) _ _, a1.r0.other (by omega) _ _, a1.r1.other (by omega) _ _, a1.r2.set 0 _, a1.r3.other (by omega) _ _, a1.g0, a1.g1, a1.g2, a1.g3⟩
theorem ReM.own {β : Type} {B : Nat} (hB : w.heap.size ≤ B) (h1 : c.nm < B) (h2 : c.bt < B) (h3 : c.pb < B) : OwnFrom B (fun (_ : β) W => ReM w F c G rb s v3 er num W) := fun _ X Y row h hg hr => by
  have hcl : ∀ (k : Nat) (cs : Array Value) (e : TypeId) (fz : Nat × Nat), X.heap[k]? = some (Obj.cells cs e fz) → Y.heap[k]? = X.heap[k]? := fun k cs e fz hk => hg.block k (Array.getElem?_eq_some_iff.1 hk).1 (fun q => by
    obtain ⟨_, o, ho, hc⟩ := hr k q.symm
    rw [hk] at ho; cases ho; cases hc)
  have hlow : ∀ k, k < B → k < X.heap.size → Y.heap[k]? = X.heap[k]? := fun k hk hx => hg.block k hx (fun q => by have := (hr k q.symm).1; omega)
  refine ⟨h.mem.keep hg.size (fun k t e => ?_) (fun k cs fz e => hcl k cs _ fz e), ⟨⟨hg.os.trans h.fr.tn.os, hg.tape.trans h.fr.tn.tape, hg.output.trans h.fr.tn.output, Nat.le_trans h.fr.tn.size hg.size, fun k hk hp => (hlow k (by omega) (Nat.lt_of_lt_of_le hk h.fr.tn.size)).trans (h.fr.tn.block k hk hp)⟩, h.fr.old⟩, (hcl _ _ _ _ h.r0).trans h.r0, (hcl _ _ _ _ h.r1).trans h.r1, (hcl _ _ _ _ h.r2).trans h.r2, (hcl _ _ _ _ h.r3).trans h.r3, h.g0, h.g1, h.g2, h.g3⟩
  rcases h.mem.ty k t e with q | q | q | ⟨cs, e', fz, q1, -⟩
  · exact hlow k (by omega) (h.mem.lt e)
  · exact hlow k (by omega) (h.mem.lt e)
  · exact hlow k (by omega) (h.mem.lt e)
  · exact hcl k cs e' fz q1
def readW (rd : Nat) (t : Pl.Bs) (w : World) : World := ((((w.alloc (.cells #[.pointer (some ⟨rd, 0, none⟩)] 264)).alloc (.cells #[.int .i64 0] 24)).alloc (.cells #[.int .i64 0] 3)).alloc (.cells #[.pointer none] 265)).alloc (.cells #[.string ⟨t.toArray⟩] 9)
theorem readStart (t : Pl.Bs) (h : RdM w F c rb s) : ReM w F c F rb s (.pointer none) 0 0 (readW c.rd t w) ∧ Row (readW c.rd t w) (w.heap.size + 4) 9 [.string ⟨t.toArray⟩] ∧ (readW c.rd t w).heap.size = w.heap.size + 5 ∧ Below w.heap.size w (readW c.rd t w) := by
  have hs : (readW c.rd t w).heap.size = w.heap.size + 5 := by simp [readW]
  have hb : Below w.heap.size w (readW c.rd t w) := ((((((Below.refl _ w).alloc (Nat.le_refl _) _).alloc (by simp only [World.size_alloc]; omega) _).alloc (by simp only [World.size_alloc]; omega) _).alloc (by simp only [World.size_alloc]; omega) _).alloc (by simp only [World.size_alloc]; omega) _)
  have hbx : ∀ k : Nat, (readW c.rd t w).heap[k]? = (((((w.heap.push (.cells #[.pointer (some ⟨c.rd, 0, none⟩)] 264)).push (.cells #[.int .i64 0] 24)).push (.cells #[.int .i64 0] 3)).push (.cells #[.pointer none] 265)).push (.cells #[.string ⟨t.toArray⟩] 9))[k]? := fun _ => rfl
  refine ⟨⟨h.later hb, Fr.later hb, ?_, ?_, ?_, ?_, h.out (Nat.le_refl _), h.out (by omega), h.out (by omega), h.out (by omega)⟩, ?_, hs, hb⟩
  all_goals (unfold Row; rw [hbx]; simp only [Array.getElem?_push, Array.size_push]; repeat (first | rw [if_pos trivial] | rw [if_pos (by omega)] | rw [if_neg (by omega)]))
  all_goals rfl
end
end Go.Proofs.YtjelacjggijmfaaGreatDoor
