/-
  The heights of the stack at each place, as the document's own answer keeps them.
-/
import Derived.Test.YtjelacjggijmfaaSPure
namespace Go.Pl

theorem bg_trans {c : Bs} : ∀ {f p q r : Nat}, Bg c f p q → Beg c q r → Beg c p r
  | 0, _, _, _, h, _ => h.elim
  | _ + 1, _, _, _, .inl rfl, h => h
  | _ + 1, _, _, _, .inr ⟨hp, hw, h⟩, h' => let ⟨g, hg⟩ := bg_trans h h'; ⟨g + 1, .inr ⟨hp, hw, hg⟩⟩
theorem Beg.trans {c : Bs} {p q r : Nat} (h : Beg c p q) (h' : Beg c q r) : Beg c p r := let ⟨_, hf⟩ := h; bg_trans hf h'
theorem del_del (A : Aw) (p : Nat) : del (del A p) p = del A p := by
  funext q; unfold del; split <;> rfl
theorem onward_del (A : Aw) (i : Ins) (h p : Nat) (hp : i.at_ = p) : onward (del A p) i h = onward A i h := by
  unfold onward; rw [hp, del_del]
/-- what is awaited here may be struck -/
theorem spec_del {c : Bs} {m p h : Nat} {A : Aw} (ha : agrees A p h) : Spec c m p h A ↔ Spec c m p h (del A p) := by
  have hd : agrees (del A p) p h := by intro q e; unfold del at e; rw [if_pos rfl] at e; cases e
  by_cases hp : p < c.length
  · rw [spec_step hp, spec_step hp, del_del, onward_del A (mkIns c p) h p rfl]
    exact ⟨fun e => ⟨hd, e.2⟩, fun e => ⟨ha, e.2⟩⟩
  · rw [spec_end hp, spec_end hp]
    refine ⟨fun e => ⟨hd, e.2.1, fun q hq => ?_⟩, fun e => ⟨ha, e.2.1, fun q hq => ?_⟩⟩
    · unfold del; rw [if_neg hq]; exact e.2.2 q hq
    · have := e.2.2 q hq
      unfold del at this; rwa [if_neg hq] at this
def gset (g : Nat → Int) (i : Nat) (v : Int) : Nat → Int := fun q => if q = i then v else g q

structure HiInv (c : Bs) (m p cur h : Nat) (g : Nat → Int) (A : Aw) : Prop where
  ge : p ≤ cur
  beg : Beg c 0 cur
  gap : ∀ q, p ≤ q → q < cur → ¬ Beg c 0 q
  here : g cur = h
  h16 : h ≤ 16
  hi : ∀ q, cur < q → q ≤ c.length → (g q = -1 ∧ A q = none) ∨ ∃ x : Nat, g q = x ∧ A q = some x
  lo : ∀ q, q ≤ cur ∨ c.length < q → A q = none
  only : ∀ q x, A q = some x → Beg c 0 q
  spec : Spec c m 0 0 (fun _ => none) ↔ Spec c m cur h A
theorem HiInv.start (c : Bs) (m : Nat) (g : Nat → Int) (h0 : g 0 = 0) (h1 : ∀ q, 0 < q → q ≤ c.length → g q = -1) : HiInv c m 0 0 0 g (fun _ => none) :=
  ⟨Nat.le_refl _, beg_self c 0, fun q _ h => by omega, h0, by omega, fun q hq hl => .inl ⟨h1 q hq hl, rfl⟩, fun _ _ => rfl, fun _ _ e => (by cases e), Iff.rfl⟩
theorem HiInv.skip {c : Bs} {m p cur h : Nat} {g : Nat → Int} {A : Aw} (H : HiInv c m p cur h g A) (hn : ¬ Beg c 0 p) : HiInv c m (p + 1) cur h g A := by
  have : p ≠ cur := by rintro rfl; exact hn H.beg
  have := H.ge
  exact ⟨by omega, H.beg, fun q h1 h2 => H.gap q (by omega) h2, H.here, H.h16, H.hi, H.lo, H.only, H.spec⟩
theorem HiInv.at_ {c : Bs} {m p cur h : Nat} {g : Nat → Int} {A : Aw} (H : HiInv c m p cur h g A) (hb : Beg c 0 p) : cur = p := by
  have := H.ge
  rcases Nat.lt_or_ge p cur with h | h
  · exact absurd hb (H.gap p (Nat.le_refl _) h)
  · omega
theorem HiInv.done {c : Bs} {m cur h : Nat} {g : Nat → Int} {A : Aw} {p : Nat} (H : HiInv c m p cur h g A) (hp : ¬ p < c.length) : g c.length = h ∧ (Spec c m 0 0 (fun _ => none) ↔ h = 0) := by
  have h1 := H.ge
  have h2 := H.beg.le
  obtain rfl : cur = c.length := by omega
  refine ⟨H.here, ?_⟩
  rw [H.spec, spec_end (by omega)]
  refine ⟨fun e => e.2.1, fun e => ⟨fun q hq => ?_, e, fun q _ => H.lo q (by omega)⟩⟩
  rw [H.lo _ (.inl (Nat.le_refl _))] at hq; cases hq
/-- what is told of a place ahead, in the two tongues -/
theorem HiInv.agrees {c : Bs} {m p h : Nat} {g : Nat → Int} {A : Aw} (H : HiInv c m p p h g A) {q x : Nat} (hq : p < q) (hl : q ≤ c.length) : Pl.agrees A q x ↔ ¬ (0 ≤ g q ∧ g q ≠ x) := by
  unfold Pl.agrees
  rcases H.hi q hq hl with ⟨h1, h2⟩ | ⟨y, h1, h2⟩
  · rw [h1, h2]; simp
  · rw [h1, h2]
    simp only [Option.some.injEq]
    constructor
    · intro e; have := e y rfl; omega
    · rintro e z rfl; omega
theorem HiInv.delself {c : Bs} {m p h : Nat} {g : Nat → Int} {A : Aw} (H : HiInv c m p p h g A) : del A p = A := by
  funext q; unfold del
  split
  · rename_i e; subst e; exact (H.lo q (.inl (Nat.le_refl _))).symm
  · rfl
theorem HiInv.lowFails {c : Bs} {m p h : Nat} {g : Nat → Int} {A : Aw} (H : HiInv c m p p h g A) (hp : p < c.length) (hn : h < taken (opAt c p)) : ¬ Spec c m 0 0 (fun _ => none) := by
  rw [H.spec, spec_step hp]; rintro ⟨_, _, _, e, _⟩; omega
theorem HiInv.highFails {c : Bs} {m p h : Nat} {g : Nat → Int} {A : Aw} (H : HiInv c m p p h g A) (hp : p < c.length) (hn : 16 < rise (opAt c p) h) : ¬ Spec c m 0 0 (fun _ => none) := by
  rw [H.spec, spec_step hp]; rintro ⟨_, _, _, _, e, _⟩; omega
theorem onward6 {A : Aw} {i : Ins} {h : Nat} (h6 : i.op = 6) : onward A i h = put (del A i.at_) (i.next + i.first) (rise i.op h) := by unfold onward; rw [if_pos h6]
theorem onwardNot {A : Aw} {i : Ins} {h : Nat} (h6 : i.op ≠ 6) : onward A i h = del A i.at_ := by unfold onward; rw [if_neg h6]
theorem HiInv.farFails {c : Bs} {m p h : Nat} {g : Nat → Int} {A : Aw} (H : HiInv c m p p h g A) (hp : p < c.length) (h6 : opAt c p = 6) (hn : ¬ Beg c 0 ((mkIns c p).next + (mkIns c p).first)) : ¬ Spec c m 0 0 (fun _ => none) := by
  rw [H.spec, spec_step hp]
  rintro ⟨_, hw, _, _, _, _, hs⟩
  rw [onward6 h6] at hs
  have := spec_pos hs (q := (mkIns c p).next + (mkIns c p).first) (x := rise (opAt c p) h) (by unfold put; rw [if_pos rfl]; rfl)
  exact hn ((H.beg.next hp hw).trans this)
theorem HiInv.toFails {c : Bs} {m p h : Nat} {g : Nat → Int} {A : Aw} (H : HiInv c m p p h g A) (hp : p < c.length) (h6 : opAt c p = 6) (hl : (mkIns c p).next + (mkIns c p).first ≤ c.length)
    (hn : 0 ≤ g ((mkIns c p).next + (mkIns c p).first) ∧ g ((mkIns c p).next + (mkIns c p).first) ≠ (rise (opAt c p) h : Nat)) : ¬ Spec c m 0 0 (fun _ => none) := by
  rw [H.spec, spec_step hp]
  rintro ⟨_, hw, _, _, _, e, _⟩
  have := e h6
  rw [H.delself, H.agrees (by have := next_gt hw; omega) hl] at this
  exact this hn
/-- the heights behind an instruction, but for the one behind it -/
def gjump (c : Bs) (p h : Nat) (g : Nat → Int) : Nat → Int := if opAt c p = 6 then gset g ((mkIns c p).next + (mkIns c p).first) (rise (opAt c p) h : Nat) else g
theorem HiInv.onwardAt {c : Bs} {m p h : Nat} {g : Nat → Int} {A : Aw} (H : HiInv c m p p h g A) {q : Nat} (hq : p < q) (hl : q ≤ c.length) :
    (gjump c p h g q = -1 ∧ onward A (mkIns c p) h q = none) ∨ ∃ x : Nat, gjump c p h g q = x ∧ onward A (mkIns c p) h q = some x := by
  unfold gjump
  by_cases h6 : opAt c p = 6
  · rw [if_pos h6, onward6 h6]
    have : (mkIns c p).at_ = p := rfl
    rw [this, H.delself]
    unfold gset put
    by_cases e : q = (mkIns c p).next + (mkIns c p).first
    · rw [if_pos e, if_pos e]; exact .inr ⟨_, rfl, rfl⟩
    · rw [if_neg e, if_neg e]; exact H.hi q hq hl
  · rw [if_neg h6, onwardNot h6]
    have : (mkIns c p).at_ = p := rfl
    rw [this, H.delself]
    exact H.hi q hq hl
theorem HiInv.nextFails {c : Bs} {m p h : Nat} {g : Nat → Int} {A : Aw} (H : HiInv c m p p h g A) (hp : p < c.length) (hw : whole c p)
    (hn : 0 ≤ gjump c p h g (mkIns c p).next ∧ gjump c p h g (mkIns c p).next ≠ (rise (opAt c p) h : Nat)) : ¬ Spec c m 0 0 (fun _ => none) := by
  rw [H.spec, spec_step hp]
  rintro ⟨_, _, _, _, _, _, f, hs⟩
  cases f with
  | zero => exact hs
  | succ f =>
    have ha := hs.1
    rcases H.onwardAt (next_gt hw) (next_le hw) with ⟨h1, h2⟩ | ⟨y, h1, h2⟩
    · rw [h1] at hn; omega
    · have := ha y h2
      rw [h1] at hn; omega
theorem HiInv.step {c : Bs} {m p h : Nat} {g : Nat → Int} {A : Aw} (H : HiInv c m p p h g A) (hp : p < c.length) (hw : whole c p) (hok : okOps m (mkIns c p)) (h1 : taken (opAt c p) ≤ h) (h2 : rise (opAt c p) h ≤ 16)
    (h6 : opAt c p = 6 → Beg c 0 ((mkIns c p).next + (mkIns c p).first) ∧ ¬ (0 ≤ g ((mkIns c p).next + (mkIns c p).first) ∧ g ((mkIns c p).next + (mkIns c p).first) ≠ (rise (opAt c p) h : Nat)))
    (hn : ¬ (0 ≤ gjump c p h g (mkIns c p).next ∧ gjump c p h g (mkIns c p).next ≠ (rise (opAt c p) h : Nat))) :
    HiInv c m (p + 1) (mkIns c p).next (rise (opAt c p) h) (gset (gjump c p h g) (mkIns c p).next (rise (opAt c p) h : Nat)) (del (onward A (mkIns c p) h) (mkIns c p).next) := by
  have hgt := next_gt hw
  have hle := next_le hw
  have hag : Pl.agrees (onward A (mkIns c p) h) (mkIns c p).next (rise (opAt c p) h) := by
    intro y hy
    rcases H.onwardAt hgt hle with ⟨k1, k2⟩ | ⟨z, k1, k2⟩
    · rw [k2] at hy; cases hy
    · rw [k2] at hy; cases hy
      rw [k1] at hn; omega
  have hbeg := H.beg.next hp hw
  have hfar : ∀ q x, onward A (mkIns c p) h q = some x → Beg c 0 q := by
    intro q x e
    by_cases k : opAt c p = 6
    · rw [onward6 k] at e
      unfold put at e
      by_cases e2 : q = (mkIns c p).next + (mkIns c p).first
      · rw [e2]; exact (h6 k).1
      · rw [if_neg e2, show (mkIns c p).at_ = p from rfl, H.delself] at e; exact H.only q x e
    · rw [onwardNot k, show (mkIns c p).at_ = p from rfl, H.delself] at e; exact H.only q x e
  refine ⟨hgt, hbeg, fun q k1 k2 k3 => ?_, by unfold gset; rw [if_pos rfl], h2, fun q k1 k2 => ?_, fun q k => ?_, fun q x e => ?_, ?_⟩
  · rcases H.beg.gap k3 hp hw with k | k <;> omega
  · unfold gset del
    rw [if_neg (by omega), if_neg (by omega)]
    exact H.onwardAt (by omega) k2
  · unfold del
    split
    · rfl
    · rename_i hne
      cases e : onward A (mkIns c p) h q with
      | none => rfl
      | some x =>
        exfalso
        have hb := hfar q x e
        have hbl := hb.le
        rcases H.beg.gap hb hp hw with k' | k'
        · have h0 : onward A (mkIns c p) h q = none := by
            by_cases k6 : opAt c p = 6
            · rw [onward6 k6]; unfold put
              rw [if_neg (by omega), show (mkIns c p).at_ = p from rfl, H.delself]; exact H.lo q (.inl k')
            · rw [onwardNot k6, show (mkIns c p).at_ = p from rfl, H.delself]; exact H.lo q (.inl k')
          rw [h0] at e; cases e
        · omega
  · unfold del at e
    split at e
    · cases e
    · exact hfar q x e
  · rw [H.spec, spec_step hp, ← spec_del hag]
    refine ⟨fun e => e.2.2.2.2.2.2, fun e => ⟨fun y hy => ?_, hw, hok, h1, h2, fun k => ?_, e⟩⟩
    · rw [H.lo _ (.inl (Nat.le_refl _))] at hy; cases hy
    · obtain ⟨k1, k2⟩ := h6 k
      rw [H.delself, H.agrees (by omega) k1.le]
      exact k2
end Go.Pl
