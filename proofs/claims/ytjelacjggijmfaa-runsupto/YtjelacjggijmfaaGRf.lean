/-
  A range over a function whose iterator itself ranges over another function: the contract of such an iterator, and the law for the loop over it.
-/
import Derived.RangeFuncNested
import Derived.RangeFuncBound
import Derived.RangeFuncLeaves
namespace Go.Mk
open Go Go.RowKit
variable {P : Program}

/-- At the wide fence the number of frames that are left says nothing. -/
theorem callsIn_any {n m : Nat} {f : FuncId} {args : Array Value} {w : World} {R : Ending → World → Prop} (h : CallsIn Fence.wide n P f args w R) : CallsIn Fence.wide m P f args w R :=
  callsIn_wide.2 (callsIn_wide.1 h)
theorem roundIn_any {n m l : Nat} {f : FuncId} {tmps : Array Value} {assign body : Code} {w : World} {R : Ending → World → Prop} (h : RoundIn Fence.wide n P l f tmps assign body w R) : RoundIn Fence.wide m P l f tmps assign body w R :=
  ⟨h.1, fun c cs _ => h.2 c cs (room_wide _)⟩
theorem roundIn_in {n m l k : Nat} {f : FuncId} {tmps : Array Value} {assign body : Code} {w : World} {R : Ending → World → Prop} (h : RoundIn Fence.wide n P l f tmps assign body w R) : RoundIn (Fence.wide.inRound k) m P l f tmps assign body w R :=
  roundIn_any h

/-- An iterator that gives the elements of L in their order, as long as the rounds go on. What the caller holds must abide new blocks, and the turn of a block that is no cells and was laid since the iterator was called. -/
def Iter {α : Type} (P : Program) (g : Nat) (lb : Array Value) (encs : α → Array Value) (Kp : Nat → World → World → Prop) (L : List α) (w : World) : Prop :=
  ∀ (l : Nat) (J Jx : List α → World → Prop) (W : World), l < W.heap.size → Below w.heap.size w W → OwnFrom W.heap.size J → OwnFrom W.heap.size Jx →
    (∀ pre x post W1, L = pre ++ x :: post → J pre W1 → YieldAt Fence.wide 9 P l (encs x) W1 fun e W' =>
      (e = .returned (.bool true) ∧ J (pre ++ [x]) W' ∧ Kp l W1 W') ∨ (e = .returned (.bool false) ∧ Jx (pre ++ [x]) W' ∧ Kp l W1 W')) →
    J [] W →
    CallsIn Fence.wide 9 P g (#[.func (.yield l) #[] #[]] ++ lb) W fun e W' => (∃ v, e = .returned v) ∧ (J L W' ∨ ∃ pre post, L = pre ++ post ∧ Jx pre W')

theorem ownFrom_le {β : Type} {B B' : Nat} {I : β → World → Prop} (h : OwnFrom B I) (hB : B ≤ B') : OwnFrom B' I :=
  fun s X Y row hs hg hr => h s X Y row hs hg (fun r e => ⟨Nat.le_trans hB (hr r e).1, (hr r e).2⟩)
/-- What lies in a block below B, or in one that the step does not turn, stays. -/
theorem same_below {X Y : World} {row : Option Nat} {B k : Nat} {o : Obj} (hg : X.grownBy Y row) (hr : ∀ r, row = some r → B ≤ r) (hk : k < B) (h : X.heap[k]? = some o) : Y.heap[k]? = some o :=
  (hg.block k (Array.getElem?_eq_some_iff.1 h).1 (fun e => by have := hr k e.symm; omega)).trans h

/-- How the body of a round may be left. -/
def roundPostX {α : Type} (B : Nat) (Kp : World → World → Prop) (I : List α → World → Prop) (Ix : Code → List α → World → Prop) (xs : List α) (W : World) : Exit → Act → World → Prop
  | .normal, _, W' => KeepsFrom B W W' ∧ Kp W W' ∧ I xs W'
  | .ret, _, W' => KeepsFrom B W W' ∧ Kp W W' ∧ Ix .ret xs W'
  | .exit id, _, W' => KeepsFrom B W W' ∧ Kp W W' ∧ Ix (.exit id) xs W'
  | .goto t, _, W' => KeepsFrom B W W' ∧ Kp W W' ∧ Ix (.goto t) xs W'
  | .panic _, _, _ => False
  | .outgrown, _, _ => False

theorem range_law {α : Type} {g : Operand} {ps : Array Tmp} {assign body : Code} {Q : Exit → Act → World → Prop} {a : Act} {w : World}
    {gf : Nat} {lb : Array Value} (hg : a.eval g = .func (.func gf) #[] lb) (eg : ∀ args w, (callFunc gf args).run P w = .ok (.enter gf args) w)
    {encs : α → Array Value} {Kp : Nat → World → World → Prop} {L : List α} {w0 : World} (hseq : Iter P gf lb encs Kp L w0)
    (hKt : ∀ {l : Nat} {A B C : World}, Kp l A B → Kp l B C → Kp l A C) (hKb : ∀ (W : World) (l : Nat) (o o' : Obj), w.heap.size ≤ l → W.heap[l]? = some o → o.isCells = false → Kp l W (W.putObj l o'))
    (hb0 : Below w0.heap.size w0 w) (hps : ∀ x, (encs x).size = ps.size)
    (I : List α → World → Prop) (Ix : Code → List α → World → Prop) (hI : OwnFrom w.heap.size I) (hIx : ∀ c, OwnFrom w.heap.size (Ix c)) (h0 : I [] w)
    (Ax : α → Act → World → Prop) (hAx : ∀ x a', OwnFrom w.heap.size (fun (_ : Unit) W => Ax x a' W))
    (hassign : ∀ (l : Nat) (pre : List α) (x : α) (post : List α) (W : World) (K : Act → World → Prop), L = pre ++ x :: post → I pre W →
      (∀ a' W', KeepsFrom w.heap.size W W' → Kp l W W' → I pre W' → Ax x a' W' → K a' W') →
      assign.wpIn (Fence.wide.inRound l) 9 P (Exit.then K (fun _ _ _ => False)) { tmps := (ps.zip (encs x)).foldl (fun t (p, v) => t.setIfInBounds p v) a.tmps, defers := [] } W)
    (hbody : ∀ (l : Nat) (pre : List α) (x : α) (post : List α) (a' : Act) (W : World), L = pre ++ x :: post → I pre W → Ax x a' W →
      body.wpIn (Fence.wide.inRound l) 9 P (roundPostX w.heap.size (Kp l) I Ix (pre ++ [x]) W) a' W)
    (hdone : ∀ (D : Nat) (W : World), w.heap.size ≤ D → I L W → W.heap[D]? = some (.deferred (some [])) → Q .normal { a with defers := { target := .collected D, args := #[] } :: a.defers } W)
    (hstop : ∀ (D : Nat) (c : Code) (pre post : List α) (W : World), w.heap.size ≤ D → L = pre ++ post → Ix c pre W → W.heap[D]? = some (.deferred (some [])) →
      c.wpIn Fence.wide 9 P Q { a with defers := { target := .collected D, args := #[] } :: a.defers } W) :
    (Code.rangeFunc g ps assign body).wpIn Fence.wide 9 P Q a w := by
  refine wpIn_rangeFunc fun fn hfn => ?_
  -- the record of the loop, in a state, with a jump that is left to do
  obtain ⟨rc, hrc⟩ : ∃ rc : LoopState → Option Code → Loop, ∀ s p, rc s p = { state := s, pending := p, fn := fn, tmps := a.tmps, params := ps, assign := assign, body := body, defers := w.heap.size } := ⟨_, fun _ _ => rfl⟩
  obtain ⟨V, hV⟩ : ∃ V, V = (w.alloc (.deferred (some []))).alloc (.loop (rc .ready none)) := ⟨_, rfl⟩
  have hVs : V.heap.size = w.heap.size + 2 := by rw [hV]; simp
  have hVl : V.heap[w.heap.size + 1]? = some (.loop (rc .ready none)) := by
    have := World.alloc_heap_new (w.alloc (.deferred (some []))) (.loop (rc .ready none))
    rw [World.size_alloc] at this
    rw [hV]; exact this
  have hVd : V.heap[w.heap.size]? = some (.deferred (some [])) := by
    rw [hV]; exact (Below.heap_alloc _ _ _ (by simp)).trans (World.alloc_heap_new w _)
  -- what the iterator is asked to carry on: the caller's own, and the two blocks of the loop
  obtain ⟨J, hJ⟩ : ∃ J : List α → World → Prop, J = fun pre W => I pre W ∧ W.heap[w.heap.size + 1]? = some (.loop (rc .ready none)) ∧ W.heap[w.heap.size]? = some (.deferred (some [])) := ⟨_, rfl⟩
  obtain ⟨Jx, hJx⟩ : ∃ Jx : List α → World → Prop, Jx = fun pre W => ∃ c, Ix c pre W ∧ W.heap[w.heap.size + 1]? = some (.loop (rc .done (some c))) ∧ W.heap[w.heap.size]? = some (.deferred (some [])) := ⟨_, rfl⟩
  have hJo : OwnFrom V.heap.size J := by
    rw [hJ]
    rintro s X Y row ⟨hi, hl, hd⟩ hgr hr
    have hr' : ∀ r, row = some r → w.heap.size + 2 ≤ r := fun r e => by have := (hr r e).1; omega
    exact ⟨hI s X Y row hi hgr (fun r e => ⟨by have := hr' r e; omega, (hr r e).2⟩), same_below hgr hr' (by omega) hl, same_below hgr hr' (by omega) hd⟩
  have hJxo : OwnFrom V.heap.size Jx := by
    rw [hJx]
    rintro s X Y row ⟨c, hi, hl, hd⟩ hgr hr
    have hr' : ∀ r, row = some r → w.heap.size + 2 ≤ r := fun r e => by have := (hr r e).1; omega
    exact ⟨c, hIx c s X Y row hi hgr (fun r e => ⟨by have := hr' r e; omega, (hr r e).2⟩), same_below hgr hr' (by omega) hl, same_below hgr hr' (by omega) hd⟩
  have hbV : Below w0.heap.size w0 V := by
    rw [hV]; exact (hb0.alloc hb0.size _).alloc (by have := hb0.size; simp; omega) _
  have hJ0 : J [] V := by rw [hJ]; exact ⟨by rw [hV]; exact hI.alloc _ (hI.alloc _ h0), hVl, hVd⟩
  -- a round
  have hround : ∀ pre x post W1, L = pre ++ x :: post → J pre W1 → YieldAt Fence.wide 9 P (w.heap.size + 1) (encs x) W1 fun e W' =>
      (e = .returned (.bool true) ∧ J (pre ++ [x]) W' ∧ Kp (w.heap.size + 1) W1 W') ∨ (e = .returned (.bool false) ∧ Jx (pre ++ [x]) W' ∧ Kp (w.heap.size + 1) W1 W') := by
    intro pre x post W1 hL hj
    rw [hJ] at hj
    obtain ⟨hi, hl, hd⟩ := hj
    have hy := run_yield (P := P) (args := encs x) hl (by rw [hrc]; exact hps x)
    simp only [hrc] at hy
    refine ⟨fn, _, assign, body, hy, roundIn_of_wpIn hfn (hassign _ pre x post W1 _ hL hi ?_)⟩
    intro a' W2 hkf hkp hi2 hax
    have hl2 := hkf.same _ _ (by omega) hl rfl
    have hd2 := hkf.same _ _ (Nat.le_refl _) hd rfl
    refine ⟨_, run_beginRound hl2 (by rw [hrc]), ?_⟩
    obtain ⟨W3, hW3⟩ : ∃ W3, W3 = W2.putObj (w.heap.size + 1) (.loop { rc .ready none with state := .busy }) := ⟨_, rfl⟩
    rw [← hW3]
    have hlt := (Array.getElem?_eq_some_iff.1 hl2).1
    have hl3 : W3.heap[w.heap.size + 1]? = some (.loop { rc .ready none with state := .busy }) := by rw [hW3]; exact World.putObj_heap_same hlt
    have hd3 : W3.heap[w.heap.size]? = some (.deferred (some [])) := by rw [hW3]; exact (World.putObj_heap_other (by omega)).trans hd2
    have hkp3 : Kp (w.heap.size + 1) W2 W3 := by rw [hW3]; exact hKb _ _ _ _ (by omega) hl2 rfl
    have hi3 : I pre W3 := by rw [hW3]; exact hI.putObj _ hi2 (by omega) hl2 rfl
    have hax3 : Ax x a' W3 := by rw [hW3]; exact (hAx x a').putObj (s := ()) _ hax (by omega) hl2 rfl
    refine wpIn_mono (hbody _ pre x post a' W3 hL hi3 hax3) ?_
    -- the round's end, by the way in which the body is left
    have fin : ∀ (jump : Option Code) (W4 : World), KeepsFrom w.heap.size W3 W4 → ∃ W5, (Instr.endRound (w.heap.size + 1) jump).run P W4 = .ok (.bool jump.isNone) W5 ∧
        W5 = W4.putObj (w.heap.size + 1) (.loop (rc (if jump.isNone then .ready else .done) jump)) ∧ W4.heap[w.heap.size + 1]? = some (.loop { rc .ready none with state := .busy }) ∧
        W5.heap[w.heap.size + 1]? = some (.loop (rc (if jump.isNone then .ready else .done) jump)) ∧ W5.heap[w.heap.size]? = some (.deferred (some [])) := by
      intro jump W4 hk
      have hl4 := hk.same _ _ (by omega) hl3 rfl
      have hd4 := hk.same _ _ (Nat.le_refl _) hd3 rfl
      have he := run_endRound (P := P) jump hl4
      simp only [hrc] at he
      refine ⟨_, he, by simp only [hrc], hl4, ?_, ?_⟩
      · simp only [hrc]; exact World.putObj_heap_same (Array.getElem?_eq_some_iff.1 hl4).1
      · exact (World.putObj_heap_other (by omega)).trans hd4
    have stop : ∀ (c : Code) (W4 : World), KeepsFrom w.heap.size W3 W4 → Kp (w.heap.size + 1) W3 W4 → Ix c (pre ++ [x]) W4 → ∃ v W5, (Instr.endRound (w.heap.size + 1) (some c)).run P W4 = .ok v W5 ∧
        ((Ending.returned v = .returned (.bool true) ∧ J (pre ++ [x]) W5 ∧ Kp (w.heap.size + 1) W1 W5) ∨ (Ending.returned v = .returned (.bool false) ∧ Jx (pre ++ [x]) W5 ∧ Kp (w.heap.size + 1) W1 W5)) := by
      intro c W4 hk hkp4 hx
      obtain ⟨W5, hr, e5, hl4, hl5, hd5⟩ := fin (some c) W4 hk
      exact ⟨_, W5, hr, .inr ⟨rfl, by rw [hJx]; exact ⟨c, by rw [e5]; exact (hIx c).putObj _ hx (by omega) hl4 rfl, hl5, hd5⟩, hKt hkp (hKt hkp3 (hKt hkp4 (by rw [e5]; exact hKb _ _ _ _ (by omega) hl4 rfl)))⟩⟩
    rintro e a4 W4 hp
    cases e with
    | normal =>
      obtain ⟨hk, hkp4, hi4⟩ := hp
      obtain ⟨W5, hr, e5, hl4, hl5, hd5⟩ := fin none W4 hk
      refine ⟨_, W5, hr, .inl ⟨rfl, by rw [hJ]; exact ⟨by rw [e5]; exact hI.putObj _ hi4 (by omega) hl4 rfl, hl5, hd5⟩, ?_⟩⟩
      exact hKt hkp (hKt hkp3 (hKt hkp4 (by rw [e5]; exact hKb _ _ _ _ (by omega) hl4 rfl)))
    | ret => exact stop _ W4 hp.1 hp.2.1 hp.2.2
    | exit id => exact stop _ W4 hp.1 hp.2.1 hp.2.2
    | goto t => exact stop _ W4 hp.1 hp.2.1 hp.2.2
    | panic ch => exact hp.elim
    | outgrown => exact hp.elim
  refine ⟨w.heap.size + 1, [{ target := .collected w.heap.size, args := #[] }], V, { target := .fn (.func gf) lb, args := #[.func (.yield (w.heap.size + 1)) #[] #[]] }, V, gf,
    #[.func (.yield (w.heap.size + 1)) #[] #[]] ++ lb, V, ?_, ?_, fun _ _ => trivial, ?_, fun h => by simp [Fence.wide] at h, ?_⟩
  · rw [hV, hrc]; exact run_enterLoop_outer _ _ _ _ _
  · simp only [resolve, hg]
    simp [go_sem]
  · simp [invoke, go_sem, eg]
  · refine (callsIn_any (hseq (w.heap.size + 1) J Jx V (by omega) hbV hJo hJxo hround hJ0)).mono ?_
    rintro e W2 ⟨⟨v, rfl⟩, h | ⟨pre, post, hL, h⟩⟩
    · rw [hJ] at h
      obtain ⟨hi, hl, hd⟩ := h
      have he := run_endLoop (P := P) hl (by rw [hrc]; simp)
      simp only [hrc] at he
      exact ⟨none, _, he, hdone _ _ (Nat.le_refl _) (hI.putObj _ hi (by omega) hl rfl) ((World.putObj_heap_other (by omega)).trans hd)⟩
    · rw [hJx] at h
      obtain ⟨c, hi, hl, hd⟩ := h
      have he := run_endLoop (P := P) hl (by rw [hrc]; simp)
      simp only [hrc] at he
      exact ⟨some c, _, he, hstop _ c pre post _ (Nat.le_refl _) hL ((hIx c).putObj _ hi (by omega) hl rfl) ((World.putObj_heap_other (by omega)).trans hd)⟩
end Go.Mk
