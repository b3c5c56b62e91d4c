/-
  Package plans: is a plan sound?
-/
import Derived.Test.YtjelacjggijmfaaSP6
import Derived.Test.YtjelacjggijmfaaSP7
import Derived.Test.YtjelacjggijmfaaSI
namespace Go.Proofs.Ytjelacjggijmfaa
open Go.RowKit Go.Shelf Go.Maps
attribute [local go_sem] Oper.semAt_some

/-- Between two rounds: the plan, the result, the walk. -/
structure SoundI (n : Nat) (w : World) (sl : Value) (s : ByteArray) (m h k : Nat) (D : DataW Unit) (W : World) : Prop where
  plan : Row W n 54 [sl, .string s]
  res : Row W (n + 1) 4 [.bool false]
  map : Mw W (n + 2) k D
  walk : Row W (n + 3) 110 [.int .i64 m, .int .i64 h, .map (some (n + 2))]
  below : Below n w W
  size : n + 5 ≤ W.heap.size
theorem Mw.own (B b k : Nat) (D : DataW Unit) (hb : b < B) {β : Type} : OwnFrom B (fun (_ : β) W => Mw W b k D) := fun _ X Y row hs hg hr =>
  hs.kept hg (fun e => by have := (hr b e.symm).1; omega)
theorem SoundI.own {n : Nat} {w : World} {sl : Value} {s : ByteArray} {m h k : Nat} {D : DataW Unit} {B : Nat} {β : Type} (hB : n + 5 ≤ B) : OwnFrom B (fun (_ : β) W => SoundI n w sl s m h k D W) := fun _ X Y row hs hg hr =>
  ⟨Row.own B _ _ _ () X Y row hs.plan hg hr, Row.own B _ _ _ () X Y row hs.res hg hr, Mw.own B _ _ _ (by omega) () X Y row hs.map hg hr, Row.own B _ _ _ () X Y row hs.walk hg hr,
    hs.below.trans ⟨hg.os, hg.tape, hg.output, hg.size, fun k hk => hg.block k (by have := hs.size; omega) (fun e => by have := (hr k e.symm).1; omega)⟩, Nat.le_trans hs.size hg.size⟩
/-- A round has left: the result. -/
structure SoundX (n : Nat) (w : World) (W : World) : Prop where
  res : Row W (n + 1) 4 [.bool false]
  below : Below n w W
theorem SoundX.own {n : Nat} {w : World} {B : Nat} {β : Type} (hB : n ≤ B) : OwnFrom B (fun (_ : β) W => SoundX n w W) := fun _ X Y row hs hg hr =>
  ⟨Row.own B _ _ _ () X Y row hs.res hg hr, hs.below.trans ⟨hg.os, hg.tape, hg.output, hg.size, fun k hk => hg.block k (by have := hs.res.lt; omega) (fun e => by have := (hr k e.symm).1; omega)⟩⟩
/-- What a round may turn. -/
abbrev Inner (n : Nat) : World → World → Prop := Turned (fun k => k = n + 1 ∨ k = n + 2 ∨ k = n + 3)
theorem Inner.keeps {n : Nat} {X Y : World} (h : Inner n X Y) : KeepsFrom (n + 5) X Y :=
  ⟨h.size, fun k _ hk ho _ => (h.block k (Array.getElem?_eq_some_iff.1 ho).1 (by omega)).trans ho⟩
theorem Inner.kp {n l : Nat} {w : World} {sl : Value} {s : ByteArray} {m hh k : Nat} {D : DataW Unit} {X Y : World} (h : Inner n X Y) (hI : SoundI n w sl s m hh k D X) : KpI (n + 4) l X Y := by
  refine ⟨fun c f e => (h.block _ (Array.getElem?_eq_some_iff.1 e).1 (by omega)).trans e, fun j c f e => (h.block _ (Array.getElem?_eq_some_iff.1 e).1 ?_).trans e, h.size⟩
  rintro (rfl | rfl | rfl)
  · have := hI.res
    unfold Row at this
    rw [this] at e; cases e
  · obtain ⟨es, clock, hb, _⟩ := hI.map
    rw [hb] at e; cases e
  · have := hI.walk
    unfold Row at this
    rw [this] at e; cases e
theorem Inner.x {n : Nat} {w : World} {sl : Value} {s : ByteArray} {m hh k : Nat} {D : DataW Unit} {X Y : World} (h : Inner n X Y) (hI : SoundI n w sl s m hh k D X) (hr : Row Y (n + 1) 4 [.bool false]) : SoundX n w Y :=
  ⟨hr, h.below hI.below (by have := hI.size; omega) (fun k e => by omega)⟩
/-- What is known between two rounds. -/
structure SoundS (c : Pl.Bs) (m : Nat) (pre : List (Pl.Ins × Bool)) (p h k : Nat) (A : Pl.Aw) : Prop where
  inv : ∃ f, InsInv c pre f p
  spec : Pl.Spec c m 0 0 (fun _ => none) ↔ Pl.Spec c m p h A
  h16 : h ≤ 16
  le : k ≤ p
theorem SoundS.cut {c : Pl.Bs} {m : Nat} {pre post : List (Pl.Ins × Bool)} {x : Pl.Ins × Bool} {p h k : Nat} {A : Pl.Aw} (hS : SoundS c m pre p h k A) (hL : Pl.ilist c (c.length + 1) 0 = pre ++ x :: post) :
    p < c.length ∧ ((Pl.whole c p ∧ x = (Pl.mkIns c p, true) ∧ ∃ g, InsInv c (pre ++ [x]) g (Pl.mkIns c p).next) ∨ (¬ Pl.whole c p ∧ x = (⟨0, 0, 0, 0, 0⟩, false))) := by
  obtain ⟨f, hI⟩ := hS.inv
  by_cases hp : p < c.length
  · refine ⟨hp, ?_⟩
    by_cases hw : Pl.whole c p
    · obtain ⟨g, h1, h2⟩ := hI.step hp hw
      rw [hL] at h1
      have := List.append_cancel_left h1
      simp only [List.cons.injEq] at this
      obtain ⟨rfl, _⟩ := this
      exact .inl ⟨hw, rfl, g, h2⟩
    · have h1 := hI.bad hp hw
      rw [hL] at h1
      have := List.append_cancel_left h1
      simp only [List.cons.injEq] at this
      exact .inr ⟨hw, this.1⟩
  · have h1 := hI.done hp
    rw [hL] at h1
    simp at h1
theorem whole_op {c : Pl.Bs} {p : Nat} (hw : Pl.whole c p) : 1 ≤ (Pl.mkIns c p).op ∧ (Pl.mkIns c p).op ≤ 8 := by
  have hz := hw.1
  show 1 ≤ Pl.opAt c p ∧ Pl.opAt c p ≤ 8
  generalize Pl.opAt c p = op at *
  have h9 : ¬ (op = 0 ∨ 9 ≤ op) := fun h => hz (by unfold Pl.isz; repeat rw [if_neg (by omega)])
  omega
theorem first_le (c : Pl.Bs) (p : Nat) : (Pl.mkIns c p).first ≤ 65535 := by
  have h1 := Pl.two_lt c (p + 1)
  have h2 := Pl.opAt_lt c (p + 1)
  unfold Pl.mkIns
  simp only
  split
  · omega
  · split <;> omega
end Go.Proofs.Ytjelacjggijmfaa
