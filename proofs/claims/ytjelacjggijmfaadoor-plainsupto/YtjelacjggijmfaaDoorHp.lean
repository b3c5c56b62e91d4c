/-
  Boxes of one cell, and what a round of the loop over the lines keeps.
-/
import Derived.Test.YtjelacjggijmfaaDoorI2
import Derived.Test.YtjelacjggijmfaaDoorW8
namespace Go.Proofs.YtjelacjggijmfaaDoor
open Go.RowKit Go.Shelf

def Box1 (w : World) (b : Nat) (t : TypeId) (v : Value) : Prop := w.heap[b]? = some (.cells #[v] t (0, 0))
theorem Box1.lt {w : World} {b : Nat} {t : TypeId} {v : Value} (h : Box1 w b t v) : b < w.heap.size := (Array.getElem?_eq_some_iff.1 h).1
theorem Box1.later {w w' : World} {b : Nat} {t : TypeId} {v : Value} (h : Box1 w b t v) (hb : Below w.heap.size w w') : Box1 w' b t v := (hb.block b h.lt).trans h
theorem Box1.below {w w' : World} {b n : Nat} {t : TypeId} {v : Value} (h : Box1 w b t v) (hb : Below n w w') (hn : b < n) : Box1 w' b t v := (hb.block b hn).trans h
theorem Box1.cell {w : World} {b : Nat} {t : TypeId} {v : Value} (h : Box1 w b t v) : w.cell? ⟨b, 0, none⟩ = some v := by unfold Box1 at h; simp [World.cell?, h]
theorem Box1.frozen {w : World} {b : Nat} {t : TypeId} {v : Value} (h : Box1 w b t v) : w.frozen? ⟨b, 0, none⟩ = false := by unfold Box1 at h; simp [World.frozen?, h]
theorem Box1.set {w : World} {b : Nat} {t : TypeId} {v : Value} (h : Box1 w b t v) (u : Value) : Box1 (w.setCell ⟨b, 0, none⟩ u) b t u := by
  unfold Box1 at *
  simp [World.setCell, Array.getElem?_modify, h]
theorem Box1.other {w : World} {b c : Nat} {t : TypeId} {v : Value} (h : Box1 w b t v) (hne : b ≠ c) (o : Nat) (u : Value) : Box1 (w.setCell ⟨c, o, none⟩ u) b t v :=
  (Below.heap_setCell w ⟨c, o, none⟩ u b hne).trans h
theorem Box1.drew {w : World} {b : Nat} {t : TypeId} {v : Value} (h : Box1 w b t v) : Box1 w.drew b t v := h
theorem Box1.others {w w' : World} {b c : Nat} {t : TypeId} {v : Value} (h : Box1 w b t v) (hk : Lib.OthersKept 5 (some c) w w') (hne : b ≠ c) (ht : t ≠ 5) : Box1 w' b t v :=
  hk b _ h (by simpa using hne) (by intro c' fz e; cases e; exact ht rfl)
theorem Box1.own (B b : Nat) (t : TypeId) (v : Value) {β : Type} : OwnFrom B (fun (_ : β) W => Box1 W b t v) := box_own B b #[v] t
theorem Box4.own (B b : Nat) (t : TypeId) (a0 a1 a2 a3 : Value) {β : Type} : OwnFrom B (fun (_ : β) W => Box4 W b t a0 a1 a2 a3) := box_own B b #[a0, a1, a2, a3] t
theorem Bld.drew {B b : Nat} {acc : List UInt8} {w : World} (h : Bld B b acc w) : Bld B b acc w.drew := h
theorem Bld.setOther {B b c : Nat} {t : TypeId} {v : Value} {acc : List UInt8} {w : World} (h : Bld B b acc w) (hc : Box1 w c t v) (h1 : t ≠ 5) (o : Nat) (u : Value) : Bld B b acc (w.setCell ⟨c, o, none⟩ u) := by
  unfold Box1 at hc
  have aux : ∀ p, Lib.BuilderAtF 40 5 B b p (Lib.byteCells acc) w → Lib.BuilderAtF 40 5 B b p (Lib.byteCells acc) (w.setCell ⟨c, o, none⟩ u) := by
    rintro p ⟨hB, x, hb, ⟨hl, hr⟩, hne⟩
    refine ⟨hB, x, (Below.heap_setCell w ⟨c, o, none⟩ u b (fun e => ?_)).trans hb, ⟨hl, ?_⟩, hne⟩
    · subst e; rw [hb] at hc; cases hc
    · rcases hr with hr | ⟨g, cap, cur, fz, hv, hBg, hg, rest⟩
      · exact .inl hr
      · refine .inr ⟨g, cap, cur, fz, hv, hBg, (Below.heap_setCell w ⟨c, o, none⟩ u g (fun e => ?_)).trans hg, rest⟩
        subst e; rw [hg] at hc; cases hc; exact h1 rfl
  rcases h with h | h
  · exact .inl (aux _ h)
  · exact .inr (aux _ h)
theorem Bld.own (C B b : Nat) (acc : List UInt8) {β : Type} : OwnFrom C (fun (_ : β) W => Bld B b acc W) := fun _ X Y row hs hg hr =>
  Bld.kept hs (fun k c t f hk => (hg.block k (Array.getElem?_eq_some_iff.1 hk).1 (fun e => by
    obtain ⟨_, o, ho, hc⟩ := hr k e.symm
    rw [hk] at ho; cases ho; cases hc)).trans hk)
theorem Bld.blk {B b : Nat} {acc : List UInt8} {w : World} (h : Bld B b acc w) : ∃ c, w.heap[b]? = some (.cells c 40 (0, 0)) := by
  rcases h with ⟨_, v, hb, _⟩ | ⟨_, v, hb, _⟩
  · exact ⟨_, hb⟩
  · exact ⟨_, hb⟩

theorem KpA.trans {l : Nat} {X Y Z : World} (h : KpA l X Y) (k : KpA l Y Z) : KpA l X Z :=
  ⟨fun g => k.glob (h.glob g), fun i c f hi => k.boxes i c f (h.boxes i c f hi), fun i o hl hi ho => k.others i o hl (h.others i o hl hi ho) ho, Nat.le_trans h.size k.size⟩
theorem KpA.refl (l : Nat) (X : World) : KpA l X X := ⟨fun g => g, fun _ _ _ h => h, fun _ _ _ h _ => h, Nat.le_refl _⟩
theorem KpA.putObj (W : World) (l : Nat) (o o' : Obj) (hl : W.heap[l]? = some o) (ho : o.isCells = false) : KpA l W (W.putObj l o') :=
  ⟨fun g => glob_putObj g hl ho, fun k c f hk => (World.putObj_heap_other (fun e => by subst e; rw [hl] at hk; cases hk; cases ho)).trans hk,
    fun k _ hne hk _ => (World.putObj_heap_other hne).trans hk, by simp⟩
theorem KpA.below {l : Nat} {W W' : World} (hb : Below W.heap.size W W') : KpA l W W' :=
  ⟨fun g => g.later hb, fun k _ _ hk => (hb.block k (Array.getElem?_eq_some_iff.1 hk).1).trans hk, fun k _ _ hk _ => (hb.block k (Array.getElem?_eq_some_iff.1 hk).1).trans hk, hb.size⟩
theorem KpA.setCell {l : Nat} {W : World} {b : Nat} {t : TypeId} {v : Value} (h : Box1 W b t v) (ht : t ≠ 57) (hb : 0 < b) (u : Value) : KpA l W (W.setCell ⟨b, 0, none⟩ u) := by
  unfold Box1 at h
  refine ⟨fun g => ?_, fun k c f hk => (Below.heap_setCell W ⟨b, 0, none⟩ u k (fun e => ?_)).trans hk, fun k o _ hk ho => (Below.heap_setCell W ⟨b, 0, none⟩ u k (fun e => ?_)).trans hk, by simp [World.setCell]⟩
  · obtain ⟨m, hm⟩ := g
    exact ⟨m, (((Below.refl b W).setCell (p := ⟨b, 0, none⟩) (Nat.le_refl _) u).cell (p := ⟨0, 0, none⟩) hb).trans hm⟩
  · simp only at e; subst e; rw [hk] at h; cases h; exact ht rfl
  · simp only at e; subst e; rw [hk] at h; cases h; cases ho
theorem KpA.bld {l : Nat} {W W' : World} {B b : Nat} {acc : List UInt8} (h : Bld B b acc W) (hb : Below B W W') (hk : Lib.OthersKept 5 (some b) W W') (hB : 0 < B) : KpA l W W' := by
  obtain ⟨c0, h0⟩ := h.blk
  refine ⟨fun g => ?_, fun k c f hi => hk k _ hi (fun e => ?_) (by intro c' fz e; cases e), fun k o _ hi ho => hk k _ hi (fun e => ?_) (by intro c' fz e; subst e; cases ho), hb.size⟩
  · obtain ⟨m, hm⟩ := g
    exact ⟨m, (hb.cell (p := ⟨0, 0, none⟩) hB).trans hm⟩
  · cases e; rw [h0] at hi; cases hi
  · cases e; rw [h0] at hi; cases hi; cases ho
theorem KpA.keeps {l B : Nat} {W W' : World} (h : KpA l W W') (hl : l < B) : KeepsFrom B W W' := ⟨h.size, fun k o hk ho hc => h.others k o (by omega) ho hc⟩
end Go.Proofs.YtjelacjggijmfaaDoor
