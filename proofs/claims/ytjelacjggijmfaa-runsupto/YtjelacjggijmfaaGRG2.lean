/-
  The document's own run: what lies in memory between two instructions.
-/
import Derived.Test.YtjelacjggijmfaaGSPure
import Derived.Test.YtjelacjggijmfaaGLG4
import Derived.Test.YtjelacjggijmfaaGRF5
import Derived.Test.YtjelacjggijmfaaGSR4
namespace Go.Proofs.Ytjelacjggijmfaa
open Go.RowKit

def bitV (b : Bool) : Value := .int .i64 (if b then 1 else 0)
theorem own_same {w W : World} {B e size n : Nat} {v : Value} {xs : List Value} (h : w.ownsRow B e size v n xs) (hk : ∀ k, v.ownBlock = some k → W.heap[k]? = w.heap[k]?) : W.ownsRow B e size v n xs := by
  refine ⟨h.1, ?_⟩
  rcases h.2 with h1 | ⟨g, cap, cur, rfl, h2, h3, h4⟩
  · exact .inl h1
  · exact .inr ⟨g, cap, cur, rfl, h2, (hk g rfl).trans h3, h4⟩
theorem own_kept {w W : World} {B e size n : Nat} {v : Value} {xs : List Value} (h : w.ownsRow B e size v n xs) (hk : Kept w W) (h1 : e ≠ 62) (h2 : e ≠ 9) (h3 : e ≠ 76) : W.ownsRow B e size v n xs :=
  own_same h (fun k hb => by obtain ⟨cur, fz, hc⟩ := own_type h k hb; exact hk k cur e fz hc h1 h2 h3)
theorem Row.kept {w W : World} {b : Nat} {t : TypeId} {vs : List Value} (h : Row w b t vs) (hk : Kept w W) (h1 : t ≠ 62) (h2 : t ≠ 9) (h3 : t ≠ 76) : Row W b t vs := (hk b _ t _ h h1 h2 h3).trans h
/-- A stack of marks: the last but k of them are gone. -/
theorem own_cut {w : World} {B e n cap g : Nat} {xs : List Value} (h : w.ownsRow B e 1 (.slice (some ⟨g, 0, none⟩) n cap) n xs) (m : Nat) (hm : m ≤ n) : w.ownsRow B e 1 (.slice (some ⟨g, 0, none⟩) m cap) m (xs.take m) := by
  have hl := h.1
  refine ⟨by simp; omega, .inr ?_⟩
  rcases h.2 with ⟨h1, _⟩ | ⟨g', cap', cur, h1, h2, h3, h4, h5, h6, h7⟩
  · cases h1
  · cases h1
    refine ⟨g, cap, cur, rfl, h2, h3, by omega, h5, h6, ?_⟩
    rw [← h7, List.take_take]
    congr 1
    omega
structure RunM (w : World) (pb xb ob : Nat) (ap : Option Addr) (cp : Nat) (c : Pl.Bs) (ss : List Pl.Bs) (ve vf vc vs : Value) (st : List Bool) (fl : Nat → Bool) (X : Pl.Wd) (W : World) : Prop where
  plan : Row W pb 74 [.slice ap ss.length cp, .string ⟨c.toArray⟩]
  strs : ∃ b, (0 < ss.length → ap = some ⟨b, 0, none⟩ ∧ b < xb) ∧ RdS W b 0 ss
  world : RW W (xb + 1) xb ve vf vc X
  stack : W.ownsRow (xb + 1) 3 1 vs st.length (st.map bitV)
  on : BRow W ob 255 fl
  below : Below w.heap.size w W
  hp : pb < xb
  hw : w.heap.size ≤ pb
  ho : xb < ob
section
variable {w : World} {pb xb ob : Nat} {ap : Option Addr} {cp : Nat} {c : Pl.Bs} {ss : List Pl.Bs} {ve vf vc vs : Value} {st : List Bool} {fl : Nat → Bool} {X : Pl.Wd} {W Z : World}
theorem rds_same {b o : Nat} {cs : List Pl.Bs} (h : RdS W b o cs) (hk : 0 < cs.length → Z.heap[b]? = W.heap[b]?) : RdS Z b o cs := fun i hi => by
  rw [World.cell?_of_block (a := ⟨b, o + i, none⟩) (hk (by omega))]; exact h i hi
theorem RunM.later (h : RunM w pb xb ob ap cp c ss ve vf vc vs st fl X W) (hb : Below W.heap.size W Z) : RunM w pb xb ob ap cp c ss ve vf vc vs st fl X Z := by
  obtain ⟨b, h1, h2⟩ := h.strs
  have hx := h.world.row.lt
  exact ⟨h.plan.later hb, ⟨b, h1, rds_same h2 (fun hp => hb.block b (by have := (h1 hp).2; omega))⟩, h.world.later hb, own_same h.stack (fun k hk => hb.block k (h.stack.lt k hk).2), Row.later h.on hb, h.below.trans (hb.mono h.below.size), h.hp, h.hw, h.ho⟩
theorem RunM.give {vf' vc' : Value} {Y : Pl.Wd} (h : RunM w pb xb ob ap cp c ss ve vf vc vs st fl X W) (hr : RW Z (xb + 1) xb ve vf' vc' Y) (hb : Below xb W Z) (hk : Kept W Z) : RunM w pb xb ob ap cp c ss ve vf' vc' vs st fl Y Z := by
  obtain ⟨b, h1, h2⟩ := h.strs
  have h3 := h.hp
  have h4 := h.hw
  exact ⟨h.plan.below hb h.hp, ⟨b, h1, rds_same h2 (fun hp => hb.block b (h1 hp).2)⟩, hr, own_kept h.stack hk (by decide) (by decide) (by decide), Row.kept h.on hk (by decide) (by decide) (by decide), h.below.trans (hb.mono (by omega)), h.hp, h.hw, h.ho⟩
theorem RunM.mark (h : RunM w pb xb ob ap cp c ss ve vf vc vs st fl X W) (i : Nat) : RunM w pb xb ob ap cp c ss ve vf vc vs st (fset fl i) X (W.setCell ⟨ob, i, none⟩ (.bool true)) := by
  obtain ⟨b, h1, h2⟩ := h.strs
  have h3 := h.hp
  have h4 := h.hw
  have h5 := h.ho
  have hne : ∀ k, k ≠ ob → (W.setCell ⟨ob, i, none⟩ (.bool true)).heap[k]? = W.heap[k]? := fun k hk => Below.heap_setCell W ⟨ob, i, none⟩ _ k hk
  have hty : ∀ (k : Nat) (cur : Array Value) (e : TypeId) (fz : Nat × Nat), W.heap[k]? = some (Obj.cells cur e fz) → e ≠ 4 → k ≠ ob := fun k cur e fz hk he e' => by
    subst e'
    have := h.on
    unfold BRow Row at this
    rw [this] at hk
    cases hk
    exact he rfl
  have hown : ∀ {B e size n : Nat} {v : Value} {xs : List Value}, W.ownsRow B e size v n xs → e ≠ 4 → (W.setCell ⟨ob, i, none⟩ (.bool true)).ownsRow B e size v n xs := fun ho he => own_same ho (fun k hk => by
    obtain ⟨cur, fz, hc⟩ := own_type ho k hk
    exact hne k (hty k cur _ fz hc he))
  exact ⟨h.plan.other (by omega) _ _, ⟨b, h1, rds_same h2 (fun hp => hne b (by have := (h1 hp).2; omega))⟩, ⟨h.world.row.other (by omega) _ _, hown h.world.files (by decide), hown h.world.cmds (by decide), h.world.lt⟩, hown h.stack (by decide), h.on.set i, h.below.setCell (p := ⟨ob, i, none⟩) (by show _ ≤ ob; omega) _, h.hp, h.hw, h.ho⟩
/-- The stack turns: its row alone has changed, or there is a new one. -/
theorem RunM.turn {vs' : Value} {st' : List Bool} {r : Option Nat} (h : RunM w pb xb ob ap cp c ss ve vf vc vs st fl X W) (hg : W.grownBy Z r) (hr : r = none ∨ r = vs.ownBlock) (hs : Z.ownsRow (xb + 1) 3 1 vs' st'.length (st'.map bitV)) : RunM w pb xb ob ap cp c ss ve vf vc vs' st' fl X Z := by
  obtain ⟨b, h1, h2⟩ := h.strs
  have h3 := h.hp
  have h4 := h.hw
  have h5 := h.ho
  have hx := h.world.row.lt
  have hlow : ∀ k, k ≤ xb → Z.heap[k]? = W.heap[k]? := fun k hk => hg.block k (by omega) (fun e => by
    rcases hr with rfl | rfl
    · cases e
    · have := (h.stack.lt k e.symm).1; omega)
  have hty : ∀ (k : Nat) (cur : Array Value) (e : TypeId) (fz : Nat × Nat), W.heap[k]? = some (Obj.cells cur e fz) → e ≠ 3 → Z.heap[k]? = W.heap[k]? := fun k cur e fz hk he =>
    hg.block k (Array.getElem?_eq_some_iff.1 hk).1 (fun e' => by
      rcases hr with rfl | rfl
      · cases e'
      · obtain ⟨cur', fz', hc⟩ := own_type h.stack k e'.symm
        rw [hc] at hk; cases hk; exact he rfl)
  have hown : ∀ {B e size n : Nat} {v : Value} {xs : List Value}, W.ownsRow B e size v n xs → e ≠ 3 → Z.ownsRow B e size v n xs := fun ho he => own_same ho (fun k hk => by
    obtain ⟨cur, fz, hc⟩ := own_type ho k hk
    exact hty k cur _ fz hc he)
  exact ⟨(hlow pb (by omega)).trans h.plan, ⟨b, h1, rds_same h2 (fun hp => hlow b (by have := (h1 hp).2; omega))⟩, ⟨(hlow xb (Nat.le_refl _)).trans h.world.row, hown h.world.files (by decide), hown h.world.cmds (by decide), h.world.lt⟩, hs, (hty ob _ _ _ h.on (by decide)).trans h.on,
    h.below.trans ⟨hg.os, hg.tape, hg.output, hg.size, fun k hk => hlow k (by omega)⟩, h.hp, h.hw, h.ho⟩
end
end Go.Proofs.Ytjelacjggijmfaa
