/-
  The program's run over all instructions.
  The program's run over all instructions: those that are left out, and those that are done.
  The program's machine does an instruction: what the document tells.
-/
import Derived.Test.YtjelacjggijmfaaGreatDoorVMP4
import Derived.Test.YtjelacjggijmfaaGreatDoorVSS
import Derived.Sort.QuietIn
namespace Go.Proofs.YtjelacjggijmfaaGreatDoor
open Go.RowKit Go.MapKept Go.ChangeMaps Go.Maps

def goA (i : Pl.Ins) (st : List Bool) (go : Nat) : Nat := if i.op = 6 then (if st.getLast?.getD false then go else i.next + i.first) else go
theorem st_one {st : List Bool} (h : 1 ≤ st.length) : ∃ r y, st = r ++ [y] := by
  rcases List.eq_nil_or_concat st with rfl | ⟨s1, y, rfl⟩
  · simp at h
  · exact ⟨s1, y, by simp⟩
theorem st_two {st : List Bool} (h : 2 ≤ st.length) : ∃ r x y, st = r ++ [x, y] := by
  obtain ⟨s1, y, rfl⟩ := st_one (Nat.le_trans (by omega) h)
  obtain ⟨r, x, rfl⟩ := st_one (st := s1) (by simp at h; omega)
  exact ⟨r, x, y, by simp⟩
/-- What the effects are, in memory and by their numbers. -/
structure EffOk (w : World) (L be oe : Nat) (ae : Option Addr) (ef : List Pl.Eff) (S : List Pl.Bs) : Prop where
  at' : 0 < ef.length → ae = some ⟨be, oe, none⟩
  rd : RdE w L be oe ef
  names : ∀ e ∈ ef, ∀ f ∈ e.writes, f.path ∈ S
  many : ef.length ≤ 8388608
  writes : ∀ e ∈ ef, e.writes.length ≤ 8388608
  few : S.length ≤ 8388608
theorem do_any (i : Pl.Ins) (ae : Option Addr) (ce L be oe : Nat) (S : List Pl.Bs) (B bm bx bf bi : Nat) (ap : Option Addr) (cp : Nat) (ss : List Pl.Bs) (ef : List Pl.Eff) (vs vg : Value) (st : List Bool) (fl : Nat → Bool) (go : Nat) (X : Pl.Wd) (w : World)
    (h : MM w B bm bx bf bi ap cp ss (.slice ae ef.length ce) ef vs vg st fl go X) (h1 : 1 ≤ i.op) (h8 : i.op ≤ 8) (hok : Pl.okOps ss.length i) (htk : Pl.taken i.op ≤ st.length) (h18 : st.length ≤ 18) (hF : i.first ≤ 65535) (hF2 : i.op = 4 ∨ i.op = 8 → i.first < 256) (hn : i.next ≤ 8388608)
    (hx : X.exit = 0) (hE : EffOk w L be oe ae ef S) (hL0 : L ≤ bm) (hL1 : L ≤ bx) (hL2 : L ≤ bf) (hfit : Fit S X.files) (hcl : X.cmds.length ≤ 8388608) :
    Calls Tryz.prog 133 #[.pointer (some ⟨bm, 0, none⟩), insV i] w fun e w' => e = .returned (.tuple #[]) ∧ ∃ vs' vg', MM w' B bm bx bf bi ap cp ss (.slice ae ef.length ce) ef vs' vg' (Pl.act ss ef i st fl X).2.1 (Pl.act ss ef i st fl X).2.2.1 (goA i st go) (Pl.act ss ef i st fl X).2.2.2 ∧ MTn bm bx bf vs vg vs' vg' w w' := by
  obtain ⟨op, at_, nx, F, G⟩ := i
  simp only at *
  unfold insV
  have hops : op = 1 ∨ op = 2 ∨ op = 3 ∨ op = 4 ∨ op = 5 ∨ op = 6 ∨ op = 7 ∨ op = 8 := by omega
  have hgd : ∀ n (hn : n < ss.length), ss.getD n [] = ss[n] := fun n hn => by rw [List.getD_eq_getElem?_getD, List.getElem?_eq_getElem hn]; rfl
  rcases hops with rfl | rfl | rfl | rfl | rfl | rfl | rfl | rfl
  · exact do1_any at_ nx F G _ _ _ _ _ _ _ _ _ _ _ _ _ _ _ _ w h h18 (hok.1 rfl)
  · have hl := hok.2.1 (.inl rfl)
    have := do2_any at_ nx F G _ _ _ _ _ _ _ _ _ _ _ _ _ _ _ _ w h h18 hl
    rw [← hgd F hl] at this
    exact this
  · obtain ⟨hl, hl'⟩ := hok.2.2 rfl
    have := do3_any at_ nx F G _ _ _ _ _ _ _ _ _ _ _ _ _ _ _ _ w h h18 hl hl'
    rw [← hgd F hl, ← hgd G hl'] at this
    exact this
  · exact do4_any at_ nx F G _ _ _ _ _ _ _ _ _ _ _ _ _ _ _ _ w h h18 (hF2 (.inl rfl))
  · obtain ⟨r, x, y, rfl⟩ := st_two htk
    have := do5_any r x y at_ nx F G _ _ _ _ _ _ _ _ _ _ _ _ _ _ _ w h (by simp at h18; omega)
    have e1 : (r ++ [x, y]).dropLast.dropLast = r := by rw [show r ++ [x, y] = (r ++ [x]) ++ [y] by simp, List.dropLast_concat, List.dropLast_concat]
    have e2 : (r ++ [x, y]).getLast?.getD false = y := by simp
    have e3 : (r ++ [x, y]).dropLast.getLast?.getD false = x := by rw [show r ++ [x, y] = (r ++ [x]) ++ [y] by simp, List.dropLast_concat]; simp
    have e4 : Pl.act ss ef ⟨5, at_, nx, F, G⟩ (r ++ [x, y]) fl X = (nx, r ++ [y || x], fl, X) := by unfold Pl.act; simp only [e1, e2, e3]; rfl
    rw [e4]
    exact this
  · obtain ⟨r, y, rfl⟩ := st_one htk
    have := do6_any r y at_ nx F G _ _ _ _ _ _ _ _ _ _ _ _ _ _ _ w h (by simp at h18; omega) hn hF
    have e4 : (Pl.act ss ef ⟨6, at_, nx, F, G⟩ (r ++ [y]) fl X).2 = (r, fl, X) := by unfold Pl.act; simp
    have e5 : goA ⟨6, at_, nx, F, G⟩ (r ++ [y]) go = if y then go else nx + F := by unfold goA; simp
    rw [e4, e5]
    exact this
  · have hl := hok.2.1 (.inr rfl)
    have := do7_any at_ nx F G _ _ _ _ _ _ _ _ ae ce L be oe S _ _ _ _ _ _ _ w h hl hx hE.at' hE.rd hL0 hL1 hL2 hfit hE.few hE.names hE.many hE.writes hcl
    rw [← hgd F hl] at this
    exact this
  · exact do8_any at_ nx F G _ _ _ _ _ _ _ _ _ _ _ _ _ _ _ _ w h (hF2 (.inr rfl))
end Go.Proofs.YtjelacjggijmfaaGreatDoor
namespace Go.Pl
open Go Go.RowKit

/-- from p on, instruction by instruction, one comes to q -/
inductive Reach (c : Bs) : Nat → Nat → Prop
  | here (p : Nat) : Reach c p p
  | on {p q : Nat} (hp : p < c.length) (hw : whole c p) (h : Reach c (mkIns c p).next q) : Reach c p q
theorem Reach.le {c : Bs} {p q : Nat} (h : Reach c p q) : p ≤ q := by
  induction h with
  | here => omega
  | on hp hw h ih => have := next_gt hw; omega
theorem snd_reach {c : Bs} {m : Nat} : ∀ {f p h : Nat} {A : Aw} {q x : Nat}, Snd c m f p h A → A q = some x → Reach c p q
  | 0, _, _, _, _, _, h, _ => h.elim
  | f + 1, p, h, A, q, x, hs, hx => by
    by_cases hqp : q = p
    · subst hqp; exact .here _
    obtain ⟨_, ⟨hp, hw, ho, _, _, h6, hn⟩ | ⟨hp, _, hz⟩⟩ := hs
    · have : onward A (mkIns c p) h q = some x := by
        unfold onward put
        have hd : del A p q = some x := by unfold del; rw [if_neg hqp]; exact hx
        split
        · rename_i ho6
          dsimp only
          split
          · rename_i hq
            have := h6 ho6 x (by rw [← hq]; exact hd)
            rw [this]; rfl
          · exact hd
        · exact hd
      exact .on hp hw (snd_reach hn this)
    · rw [hz q hqp] at hx; cases hx
/-- where a skip leads to, one comes to -/
theorem Sn.reach {c : Bs} {m p h : Nat} (hs : Sn c m p h) (hp : p < c.length) (h6 : opAt c p = 6) : Reach c (mkIns c p).next ((mkIns c p).next + (mkIns c p).first) := by
  obtain ⟨A, hA⟩ := hs
  obtain ⟨_, _, _, _, _, _, f, hf⟩ := (spec_step hp).1 hA
  refine snd_reach hf (x := rise (opAt c p) h) ?_
  unfold onward put
  rw [if_pos (show (mkIns c p).op = 6 from h6)]
  simp
  rfl
end Go.Pl
namespace Go.Proofs.YtjelacjggijmfaaGreatDoor
open Go.RowKit Go.MapKept Go.ChangeMaps Go.Maps

/-- Between two rounds: p, where the next instruction begins; go, up to where they are left out. -/
structure RunS (c : Pl.Bs) (ss : List Pl.Bs) (ef : List Pl.Eff) (S : List Pl.Bs) (R : Pl.Wd) (pre : List (Pl.Ins × Bool)) (p : Nat) (st : List Bool) (fl : Nat → Bool) (go : Nat) (X : Pl.Wd) : Prop where
  inv : ∃ f, InsInv c pre f p
  sn : Pl.Sn c ss.length (max p go) st.length
  en : Pl.Ends c ss ef (max p go) st fl X R
  reach : p < go → Pl.Reach c p go
  x0 : X.exit = 0
  fit : Fit S X.files
  cm : X.cmds.length ≤ p
theorem RunS.cut {c : Pl.Bs} {ss : List Pl.Bs} {ef : List Pl.Eff} {S : List Pl.Bs} {R : Pl.Wd} {pre post : List (Pl.Ins × Bool)} {x : Pl.Ins × Bool} {p : Nat} {st : List Bool} {fl : Nat → Bool} {go : Nat} {X : Pl.Wd}
    (h : RunS c ss ef S R pre p st fl go X) (hL : Pl.ilist c (c.length + 1) 0 = pre ++ x :: post) : p < c.length ∧ Pl.whole c p ∧ x = (Pl.mkIns c p, true) ∧ ∃ g, InsInv c (pre ++ [x]) g (Pl.mkIns c p).next := by
  obtain ⟨f, hI⟩ := h.inv
  have hp : p < c.length := by
    by_cases hp : p < c.length
    · exact hp
    · have h1 := hI.done hp
      rw [hL] at h1
      simp at h1
  have hw : Pl.whole c p := by
    by_cases hg : p < go
    · cases h.reach hg with
      | here => omega
      | on _ hw _ => exact hw
    · have hs := h.sn
      rw [Nat.max_eq_left (by omega)] at hs
      exact (hs.fits hp).whole
  obtain ⟨g, h1, h2⟩ := hI.step hp hw
  rw [hL] at h1
  have := List.append_cancel_left h1
  simp only [List.cons.injEq] at this
  obtain ⟨rfl, _⟩ := this
  exact ⟨hp, hw, rfl, g, h2⟩
section
variable {c : Pl.Bs} {ss : List Pl.Bs} {ef : List Pl.Eff} {S : List Pl.Bs} {R : Pl.Wd} {pre : List (Pl.Ins × Bool)} {x : Pl.Ins × Bool} {p : Nat} {st : List Bool} {fl : Nat → Bool} {go : Nat} {X : Pl.Wd}
theorem RunS.skip (h : RunS c ss ef S R pre p st fl go X) (hg : p < go) (hn : ∃ g, InsInv c (pre ++ [x]) g (Pl.mkIns c p).next) (hw : Pl.whole c p) : RunS c ss ef S R (pre ++ [x]) (Pl.mkIns c p).next st fl go X := by
  have hgt := Pl.next_gt hw
  have hr : Pl.Reach c (Pl.mkIns c p).next go := by
    cases h.reach hg with
    | here => omega
    | on _ _ h => exact h
  have hle := hr.le
  have h1 := h.sn
  have h2 := h.en
  rw [Nat.max_eq_right (by omega)] at h1 h2
  exact ⟨hn, by rw [Nat.max_eq_right hle]; exact h1, by rw [Nat.max_eq_right hle]; exact h2, fun _ => hr, h.x0, h.fit, by have := h.cm; omega⟩
theorem RunS.next (h : RunS c ss ef S R pre p st fl go X) (hg : ¬ p < go) (hp : p < c.length) (hEs : ∀ e ∈ ef, ∀ f ∈ e.writes, f.path ∈ S) (hn : ∃ g, InsInv c (pre ++ [x]) g (Pl.mkIns c p).next) :
    ((Pl.act ss ef (Pl.mkIns c p) st fl X).2.2.2.exit = 0 → RunS c ss ef S R (pre ++ [x]) (Pl.mkIns c p).next (Pl.act ss ef (Pl.mkIns c p) st fl X).2.1 (Pl.act ss ef (Pl.mkIns c p) st fl X).2.2.1 (goA (Pl.mkIns c p) st go) (Pl.act ss ef (Pl.mkIns c p) st fl X).2.2.2) ∧
    (¬ (Pl.act ss ef (Pl.mkIns c p) st fl X).2.2.2.exit = 0 → (Pl.act ss ef (Pl.mkIns c p) st fl X).2.2.2 = R) := by
  have h1 := h.sn
  have h2 := h.en
  rw [Nat.max_eq_left (by omega)] at h1 h2
  have hf := h1.fits hp
  have hgt := Pl.next_gt hf.whole
  obtain ⟨n1, n2⟩ := h1.next (ss := ss) (ef := ef) (fl := fl) (X := X) hp
  have n3 := h2.step hp h.x0 n2
  have hmax : (Pl.act ss ef (Pl.mkIns c p) st fl X).1 = max (Pl.mkIns c p).next (goA (Pl.mkIns c p) st go) := by
    unfold goA
    have ho : (Pl.mkIns c p).op = Pl.opAt c p := rfl
    by_cases h6 : (Pl.mkIns c p).op = 6
    · rw [if_pos h6]
      have e1 : (Pl.act ss ef (Pl.mkIns c p) st fl X).1 = if st.getLast?.getD false then (Pl.mkIns c p).next else (Pl.mkIns c p).next + (Pl.mkIns c p).first := by
        unfold Pl.act; rw [h6]; simp
      rw [e1]
      split <;> omega
    · rw [if_neg h6]
      have e1 : (Pl.act ss ef (Pl.mkIns c p) st fl X).1 = (Pl.mkIns c p).next := by
        unfold Pl.act
        rcases Pl.isz_ops hf.whole.1 with e | e | e | e | e | e | e | e <;> first | (exact absurd (ho.trans e) h6) | (rw [ho, e]; simp)
      rw [e1]; omega
  rw [hmax] at n1 n3
  refine ⟨fun hx => ⟨hn, n1, n3, fun hlt => ?_, hx, ?_, ?_⟩, fun hx => n3.stop (fun e => hx e.2)⟩
  · unfold goA at hlt ⊢
    split at hlt
    · rename_i h6
      rw [if_pos h6]
      split at hlt
      · omega
      · rename_i ht
        rw [if_neg ht]
        exact h1.reach hp h6
    · omega
  · have : (Pl.act ss ef (Pl.mkIns c p) st fl X).2.2.2 = X ∨ ∃ d, (Pl.act ss ef (Pl.mkIns c p) st fl X).2.2.2 = Pl.giveW ef X d := by
      unfold Pl.act
      repeat' split
      all_goals first | exact .inl rfl | exact .inr ⟨_, rfl⟩
    rcases this with e | ⟨d, e⟩
    · rw [e]; exact h.fit
    · rw [e]
      have hfit := h.fit
      unfold Pl.giveW
      split
      · exact hfit
      · rename_i e' he'
        exact Fit.puts _ _ hfit (hEs e' (List.mem_of_find?_eq_some he'))
  · have : (Pl.act ss ef (Pl.mkIns c p) st fl X).2.2.2.cmds.length ≤ X.cmds.length + 1 := by
      unfold Pl.act
      repeat' split
      all_goals first | (simp only; omega) | (simp only [give_cmds']; simp)
    have := h.cm
    omega
end
end Go.Proofs.YtjelacjggijmfaaGreatDoor
namespace Go.Proofs.YtjelacjggijmfaaGreatDoor
open Go.RowKit Go.Shelf Go.MapKept Go.ChangeMaps Go.Maps
attribute [local go_sem] Oper.semAt_some

section
variable {X Y : World} {B bm bx bf bi : Nat} {ap : Option Addr} {cp : Nat} {ss : List Pl.Bs} {ve : Value} {ef : List Pl.Eff} {vs vg vs' vg' : Value} {st : List Bool} {fl : Nat → Bool} {go : Nat} {D : Pl.Wd}
theorem own_apart {W : World} {B e size n : Nat} {v : Value} {xs : List Value} (h : W.ownsRow B e size v n xs) {row : Option Nat} (hr : ∀ r, row = some r → ∃ o : Obj, W.heap[r]? = some o ∧ o.isCells = false) : v.ownBlock = none ∨ v.ownBlock ≠ row := by
  cases e : v.ownBlock with
  | none => exact .inl rfl
  | some k =>
    right
    intro e2
    obtain ⟨cur, fz, hc⟩ := own_type h k e
    obtain ⟨o, ho, hf⟩ := hr k e2.symm
    rw [hc] at ho
    cases ho
    cases hf
theorem MM.own (h : MM X B bm bx bf bi ap cp ss ve ef vs vg st fl go D) {row : Option Nat} (hg : X.grownBy Y row) (hr : ∀ r, row = some r → B ≤ r ∧ ∃ o : Obj, X.heap[r]? = some o ∧ o.isCells = false) : MM Y B bm bx bf bi ap cp ss ve ef vs vg st fl go D := by
  obtain ⟨b, h1, h2⟩ := h.strs
  have l1 := h.lm
  have l2 := h.lx
  have l3 := h.lf
  have l4 := h.li
  have l5 := h.lw
  have htn : Tn (fun k => B ≤ k) X Y := Tn.grown hg (fun k e => (hr k e).1)
  exact ⟨h.row.tn htn (by omega), h.pw.tn htn (by omega) (by omega) (by omega), ⟨b, h1, rds_same h2 (fun hp => htn.block b (by have := (h1 hp).2.1; omega) (by have := (h1 hp).2.1; omega))⟩,
    World.ownsRow.kept h.stack hg (own_apart h.stack (fun r e => (hr r e).2)), World.ownsRow.kept h.given hg (own_apart h.given (fun r e => (hr r e).2)), l1, l2, l3, l4, Nat.le_trans l5 hg.size, h.n1, h.n2, h.n3⟩
theorem MTn.keeps (h : MM X B bm bx bf bi ap cp ss ve ef vs vg st fl go D) (ht : MTn bm bx bf vs vg vs' vg' X Y) : KeepsFrom B X Y := by
  have l1 := h.lm
  have l2 := h.lx
  have l3 := h.lf
  refine ⟨ht.tn.size, fun k o hk ho hc => (ht.tn.block k (Array.getElem?_eq_some_iff.1 ho).1 (fun e => ?_)).trans ho⟩
  rcases e with e | e | e | e | e
  · omega
  · omega
  · omega
  · obtain ⟨cur, fz, hc'⟩ := own_type h.stack k e.symm
    rw [hc'] at ho; cases ho; cases hc
  · obtain ⟨cur, fz, hc'⟩ := own_type h.given k e.symm
    rw [hc'] at ho; cases ho; cases hc
theorem MTn.kp {Bt l : Nat} (h : MM X B bm bx bf bi ap cp ss ve ef vs vg st fl go D) (ht : MTn bm bx bf vs vg vs' vg' X Y) (hB : Bt < B) (h1 : Bt ≠ bm) (h2 : Bt ≠ bx) (h3 : Bt ≠ bf) : KpI Bt l X Y := by
  refine ⟨fun c f e => (ht.tn.block _ (Array.getElem?_eq_some_iff.1 e).1 (fun k => ?_)).trans e, fun j c f e => (ht.tn.block _ (Array.getElem?_eq_some_iff.1 e).1 (fun k => ?_)).trans e, ht.tn.size⟩
  · rcases k with k | k | k | k | k
    · exact h1 k
    · exact h2 k
    · exact h3 k
    · have := (h.stack.lt Bt k.symm).1; omega
    · have := (h.given.lt Bt k.symm).1; omega
  · rcases k with k | k | k | k | k
    · subst k
      have := h.row
      unfold Row at this
      rw [this] at e; cases e
    · subst k
      have := h.pw.row
      unfold Row at this
      rw [this] at e; cases e
    · subst k
      obtain ⟨es, clock, hb, _⟩ := h.pw.files
      rw [hb] at e; cases e
    · obtain ⟨cur, fz, hc'⟩ := own_type h.stack j k.symm
      rw [hc'] at e; cases e
    · obtain ⟨cur, fz, hc'⟩ := own_type h.given j k.symm
      rw [hc'] at e; cases e
end
/-- Between two rounds. -/
structure RunI (n : Nat) (w : World) (bm bx bf bi : Nat) (ap : Option Addr) (cp : Nat) (ss : List Pl.Bs) (ve : Value) (ef : List Pl.Eff) (vs vg : Value) (st : List Bool) (fl : Nat → Bool) (go : Nat) (D : Pl.Wd) (W : World) : Prop where
  mm : MM W (n + 2) bm bx bf bi ap cp ss ve ef vs vg st fl go D
  box : Row W n 256 [.pointer (some ⟨bm, 0, none⟩)]
  tn : Tn (fun k => k = bm ∨ k = bx ∨ k = bf) w W
section
variable {n : Nat} {w X Y : World} {bm bx bf bi : Nat} {ap : Option Addr} {cp : Nat} {ss : List Pl.Bs} {ve : Value} {ef : List Pl.Eff} {vs vg vs' vg' : Value} {st : List Bool} {fl : Nat → Bool} {go : Nat} {D : Pl.Wd}
theorem RunI.own (hn : w.heap.size = n) (h : RunI n w bm bx bf bi ap cp ss ve ef vs vg st fl go D X) {row : Option Nat} (hg : X.grownBy Y row) (hr : ∀ r, row = some r → n + 2 ≤ r ∧ ∃ o : Obj, X.heap[r]? = some o ∧ o.isCells = false) : RunI n w bm bx bf bi ap cp ss ve ef vs vg st fl go D Y := by
  have htn : Tn (fun k => n + 2 ≤ k) X Y := Tn.grown hg (fun k e => (hr k e).1)
  refine ⟨h.mm.own hg hr, h.box.tn htn (by omega), ⟨hg.os.trans h.tn.os, hg.tape.trans h.tn.tape, hg.output.trans h.tn.output, Nat.le_trans h.tn.size hg.size, fun k hk hp => (htn.block k ?_ (by omega)).trans (h.tn.block k hk hp)⟩⟩
  have := h.tn.size
  omega
theorem RunI.later (h : RunI n w bm bx bf bi ap cp ss ve ef vs vg st fl go D X) (hb : Below X.heap.size X Y) : RunI n w bm bx bf bi ap cp ss ve ef vs vg st fl go D Y :=
  ⟨h.mm.later hb, h.box.later hb, h.tn.trans (Tn.later hb)⟩
theorem RunI.did {st' : List Bool} {fl' : Nat → Bool} {go' : Nat} {D' : Pl.Wd} (hn : w.heap.size = n) (h : RunI n w bm bx bf bi ap cp ss ve ef vs vg st fl go D X) (hbn : bm < n ∧ bx < n ∧ bf < n) (hm : MM Y (n + 2) bm bx bf bi ap cp ss ve ef vs' vg' st' fl' go' D') (ht : MTn bm bx bf vs vg vs' vg' X Y) : RunI n w bm bx bf bi ap cp ss ve ef vs' vg' st' fl' go' D' Y := by
  have hx := h.tn.size
  have hs : ∀ k, some k = vs.ownBlock → n + 2 ≤ k := fun k e => (h.mm.stack.lt k e.symm).1
  have hg : ∀ k, some k = vg.ownBlock → n + 2 ≤ k := fun k e => (h.mm.given.lt k e.symm).1
  refine ⟨hm, h.box.tn ht.tn (fun e => ?_), ⟨ht.tn.os.trans h.tn.os, ht.tn.tape.trans h.tn.tape, ht.tn.output.trans h.tn.output, Nat.le_trans hx ht.tn.size, fun k hk hp => (ht.tn.block k (by omega) (fun e => ?_)).trans (h.tn.block k hk hp)⟩⟩
  · rcases e with e | e | e | e | e
    · omega
    · omega
    · omega
    · have := hs n e; omega
    · have := hg n e; omega
  · rcases e with e | e | e | e | e
    · exact hp (.inl e)
    · exact hp (.inr (.inl e))
    · exact hp (.inr (.inr e))
    · have := hs k e; omega
    · have := hg k e; omega
end
/-- What the run leaves. -/
structure RunX (w : World) (bm bx bf bi : Nat) (ap : Option Addr) (cp : Nat) (ss : List Pl.Bs) (ve : Value) (ef : List Pl.Eff) (D : Pl.Wd) (W : World) : Prop where
  all : ∃ vs vg st fl go, MM W (w.heap.size + 2) bm bx bf bi ap cp ss ve ef vs vg st fl go D
  tn : Tn (fun k => k = bm ∨ k = bx ∨ k = bf) w W
def runAct (n bm : Nat) (s : ByteArray) (Bx : Nat) (x : Pl.Ins × Bool) : Act := { tmps := #[.pointer (some ⟨bm, 0, none⟩), .string s, .pointer (some ⟨n, 0, none⟩), undef, .pointer (some ⟨Bx, 0, none⟩), .string s,
  .func (.func 169) #[] #[.pointer (some ⟨n + 1, 0, none⟩)], insV x.1, .bool x.2, undef, undef, undef, undef, undef, undef, undef, undef, undef, undef, undef, undef, undef, undef, undef], defers := [] }
def runW0 (bm : Nat) (s : ByteArray) (w : World) : World := (w.alloc (.cells #[.pointer (some ⟨bm, 0, none⟩)] 256)).alloc (.cells #[.string s] 9)
theorem runStart (bm : Nat) (s : ByteArray) (w : World) : Row (runW0 bm s w) w.heap.size 256 [.pointer (some ⟨bm, 0, none⟩)] ∧ (runW0 bm s w).heap[w.heap.size + 1]? = some (.cells #[.string s] 9 (0, 0)) ∧ (runW0 bm s w).heap.size = w.heap.size + 2 ∧ Below w.heap.size w (runW0 bm s w) := by
  have h1 := Row.new w 256 [.pointer (some ⟨bm, 0, none⟩)]
  refine ⟨h1.later ((Below.refl _ _).alloc (Nat.le_refl _) _), ?_, by simp [runW0], ((Below.refl _ w).alloc (Nat.le_refl _) _).alloc (by simp only [World.size_alloc]; omega) _⟩
  have := Row.new (w.alloc (.cells #[.pointer (some ⟨bm, 0, none⟩)] 256)) 9 [.string s]
  rw [World.size_alloc] at this
  exact this
theorem MM.wide {w Z : World} {B B' bm bx bf bi : Nat} {ap : Option Addr} {cp : Nat} {ss : List Pl.Bs} {ve : Value} {ef : List Pl.Eff} {fl : Nat → Bool} {go : Nat} {X : Pl.Wd} (hc : X.cmds = []) (h : MM w B bm bx bf bi ap cp ss ve ef (.slice none 0 0) (.slice none 0 0) [] fl go X) (hb : Below w.heap.size w Z) (hB : B ≤ B') (hZ : B' ≤ Z.heap.size) : MM Z B' bm bx bf bi ap cp ss ve ef (.slice none 0 0) (.slice none 0 0) [] fl go X := by
  obtain ⟨b, h1, h2⟩ := (h.later hb).strs
  have h' := h.later hb
  exact ⟨h'.row, h'.pw, ⟨b, fun hp => ⟨(h1 hp).1, Nat.lt_of_lt_of_le (h1 hp).2.1 hB, (h1 hp).2.2⟩, h2⟩, World.ownsRow_nil _ _ _ _, by rw [hc]; exact World.ownsRow_nil _ _ _ _, Nat.lt_of_lt_of_le h'.lm hB, Nat.lt_of_lt_of_le h'.lx hB, Nat.lt_of_lt_of_le h'.lf hB, Nat.lt_of_lt_of_le h'.li hB, hZ, h'.n1, h'.n2, h'.n3⟩
theorem EffOk.tn {w W : World} {L be oe : Nat} {ae : Option Addr} {ef : List Pl.Eff} {S : List Pl.Bs} {p : Nat → Prop} (h : EffOk w L be oe ae ef S) (ht : Tn p w W) (hL : L ≤ w.heap.size) (hp : ∀ k, p k → L ≤ k) : EffOk W L be oe ae ef S := ⟨h.at', h.rd.below (ht.below hL hp), h.names, h.many, h.writes, h.few⟩
set_option maxHeartbeats 4000000 in
set_option maxRecDepth 20000 in
theorem mrun_in (s : ByteArray) (hs : s.size ≤ 8388608) (ae : Option Addr) (ce L be oe : Nat) (S : List Pl.Bs) (bm bx bf bi : Nat) (ap : Option Addr) (cp : Nat) (ss : List Pl.Bs) (ef : List Pl.Eff) (X : Pl.Wd) (w : World)
    (hM : MM w w.heap.size bm bx bf bi ap cp ss (.slice ae ef.length ce) ef (.slice none 0 0) (.slice none 0 0) [] (fun _ => false) 0 X) (hsn : Pl.Sn s.data.toList ss.length 0 0) (hx : X.exit = 0) (hc : X.cmds = [])
    (hE : EffOk w L be oe ae ef S) (hL0 : L ≤ bm) (hL1 : L ≤ bx) (hL2 : L ≤ bf) (hfit : Fit S X.files) :
    CallsIn Fence.wide 9 Tryz.prog 82 #[.pointer (some ⟨bm, 0, none⟩), .string s] w fun e w' => e = .returned (.tuple #[]) ∧ RunX w bm bx bf bi ap cp ss (.slice ae ef.length ce) ef (Pl.runW s.data.toList ss ef X) w' := by
  have hmix : Tryz.prog.follows .mixedOrders = true := by kernel_rfl
  refine callsIn_of_wp_marks Tryz.func82 rfl trivial ?_
  simp only [Tryz.ntmps82, List.size_toArray, List.length_cons, List.length_nil, Nat.reduceAdd, Nat.reduceSub, Array.replicate_succ, Array.replicate_zero, List.push_toArray, List.append_toArray, List.nil_append, List.cons_append]
  gi_wp2_with fail
  refine ⟨trivial, (callsIn_wide.2 (instructions_any _ _)).mono ?_⟩
  rintro e w2 ⟨rfl, rfl⟩
  gi_wp2_with fail
  obtain ⟨hbox, htx, hVs, hVb⟩ := runStart bm s w
  have hm0 := hM.wide hc hVb (Nat.le_add_right _ 2) (by rw [hVs]; omega)
  unfold runW0 at hbox htx hVs hVb hm0
  generalize (w.alloc (.cells #[.pointer (some ⟨bm, 0, none⟩)] 256)).alloc (.cells #[.string s] 9) = V at *
  have hlm := hM.lm
  have hlx := hM.lx
  have hlf := hM.lf
  have hlL : L ≤ w.heap.size := by omega
  generalize hn : w.heap.size = n at *
  have hsz := Lib.size_eq s
  generalize hR : Pl.runW s.data.toList ss ef X = R at *
  refine Mk.range_law (gf := 169) (lb := #[.pointer (some ⟨n + 1, 0, none⟩)]) rfl (enters_of Tryz.func169 (by kernel_rfl) rfl)
    (ins_iter s (n + 1) V hs htx) KpI.trans (fun W1 l1 o o' _ hl ho => KpI.putObj _ W1 l1 o o' hl ho) (Below.refl _ _) (fun _ => rfl)
    (fun pre W1 => ∃ p st fl go D vs vg, RunS s.data.toList ss ef S R pre p st fl go D ∧ RunI n w bm bx bf bi ap cp ss (.slice ae ef.length ce) ef vs vg st fl go D W1)
    (fun c _ W1 => c = .ret ∧ ∃ vs vg st fl go, RunI n w bm bx bf bi ap cp ss (.slice ae ef.length ce) ef vs vg st fl go R W1)
    (fun s X Y row hs hgr hr => by
      obtain ⟨p, st, fl, go, D, vs, vg, h1, h2⟩ := hs
      exact ⟨p, st, fl, go, D, vs, vg, h1, h2.own hn hgr (by rw [← hVs]; exact hr)⟩)
    (fun c s X Y row hs hgr hr => by
      obtain ⟨h1, vs, vg, st, fl, go, h2⟩ := hs
      exact ⟨h1, vs, vg, st, fl, go, h2.own hn hgr (by rw [← hVs]; exact hr)⟩)
    ⟨0, [], fun _ => false, 0, X, _, _, ⟨⟨_, InsInv.start _⟩, hsn, by rw [← hR]; exact Pl.Ends.start _ _ _ _, by omega, hx, hfit, by rw [hc]; simp⟩, ⟨hm0, hbox, Tn.later (hn ▸ hVb)⟩⟩
    (fun x a' W1 => ∃ Bx, n + 1 < Bx ∧ Row W1 Bx 254 [.int .u8 x.1.op, .int .i64 x.1.at_, .int .i64 x.1.next, .int .i64 x.1.first, .int .i64 x.1.second] ∧ a' = runAct n bm s Bx x)
    (fun x a' s X Y row hs hgr hr => by
      obtain ⟨Bx, h1, h2, h3⟩ := hs
      exact ⟨Bx, h1, Row.own V.heap.size _ _ _ () X Y row h2 hgr hr, h3⟩) ?assign ?body ?done ?stop
  case assign =>
    rintro l1 pre ⟨i, ok⟩ post W1 K _ hi hK
    have hsz5 : n + 2 ≤ W1.heap.size := by obtain ⟨_, _, _, _, _, _, _, _, h⟩ := hi; exact h.mm.lw
    unfold encI insV
    gi_wp2
    have hb := (Below.refl _ W1).alloc (Nat.le_refl _) (.cells #[.int .u8 i.op, .int .i64 i.at_, .int .i64 i.next, .int .i64 i.first, .int .i64 i.second] 254)
    refine hK _ _ (keepsBelow _ hb) (KpI.below (by omega) hb) ?_ ⟨W1.heap.size, by omega, Row.new W1 254 _, rfl⟩
    obtain ⟨p, st, fl, go, D, vs, vg, h1, h2⟩ := hi
    exact ⟨p, st, fl, go, D, vs, vg, h1, h2.later hb⟩
  case body =>
    rintro l1 pre x post a' W1 hL ⟨p, st, fl, go, D, vs, vg, hS, hI⟩ ⟨Bx, hBx, hbx, rfl⟩
    obtain ⟨hp, hw, rfl, hnx⟩ := hS.cut hL
    obtain ⟨d0, d1, d2, d3, d4⟩ := hbx.cells5
    have b0 := hI.box.cell 0 (by simp)
    simp only [List.getElem_cons_zero] at b0
    have g0 := hI.mm.row.cell? (i := 259) (mCells_tail 0)
    have hat : (Pl.mkIns s.data.toList p).at_ = p := rfl
    have hF := first_le s.data.toList p
    have hgt := Pl.next_gt hw
    have hnl := Pl.next_le hw
    have hpl : p ≤ 8388608 := by omega
    have HI := hide hI
    have HNX := hide hnx
    have HS := hide hS
    have HP := hide hp
    have HW := hide hw
    by_cases hg : p < go
    · have hS2 := hide (hS.skip hg hnx hw)
      have tg : (p : Int) < (go : Int) := by omega
      simp only [hat] at d1
      clear hL hS hI hbx hnx hw hsz hgt hnl hat
      generalize Pl.mkIns s.data.toList p = i at *
      unfold runAct insV
      simp only
      gi_wp2_with fail
      gi_region_o
      all_goals gi_wp2_with fail
      all_goals exact ⟨keepsBelow _ (Below.refl _ W1).drew, KpI.below (by have := (unhide HI).mm.lw; omega) (Below.refl _ W1).drew, _, _, _, _, _, _, _, unhide hS2, (unhide HI).later (Below.refl _ W1).drew⟩
    · have tg : ¬ ((Pl.mkIns s.data.toList p).at_ : Int) < (go : Int) := by rw [hat]; omega
      have hnext := hS.next hg hp hE.names hnx
      have hsn2 := hS.sn
      rw [Nat.max_eq_left (by omega)] at hsn2
      have hfit2 := hsn2.fits hp
      obtain ⟨h1, h8⟩ := whole_op hw
      have hF2 : (Pl.mkIns s.data.toList p).op = 4 ∨ (Pl.mkIns s.data.toList p).op = 8 → (Pl.mkIns s.data.toList p).first < 256 := fun e => by
        have e' : Pl.opAt s.data.toList p = 4 ∨ Pl.opAt s.data.toList p = 8 := e
        have hz : Pl.isz (Pl.opAt s.data.toList p) = 2 := by rcases e' with e' | e' <;> rw [e'] <;> rfl
        have : (Pl.mkIns s.data.toList p).first = Pl.opAt s.data.toList (p + 1) := by unfold Pl.mkIns; simp [hz]
        rw [this]; exact Pl.opAt_lt _ _
      have hE2 : EffOk W1.drew L be oe ae ef S := hE.tn (hI.tn.trans (Tn.later (Below.refl _ W1).drew)) (by omega) (fun k e => by omega)
      have h18 : st.length ≤ 18 := by
        have hr := hfit2.rise
        have ht := hfit2.taken
        unfold Pl.rise at hr
        have : Pl.taken (Pl.opAt s.data.toList p) ≤ 2 := by unfold Pl.taken; split <;> (try split) <;> omega
        omega
      have CD := hide (do_any (Pl.mkIns s.data.toList p) ae ce L be oe S (n + 2) bm bx bf bi ap cp ss ef vs vg st fl go D W1.drew (hI.mm.later (Below.refl _ W1).drew) h1 h8 hfit2.ops hfit2.taken h18 hF hF2 (by omega) hS.x0 hE2 hL0 hL1 hL2 hS.fit (by have := hS.cm; omega))
      have HNT := hide hnext
      clear hL hS hI hbx hnx hw hsz hgt hnl hat hnext hsn2 hfit2 hF2 hE2 h1 h8
      generalize Pl.mkIns s.data.toList p = i at *
      generalize Pl.act ss ef i st fl D = ac at *
      generalize goA i st go = go2 at *
      unfold runAct insV at *
      simp only
      gi_wp2_with fail
      gi_region_o
      all_goals gi_wp2_with fail
      all_goals refine ⟨trivial, (CallsIn.inRound l1 (callsIn_wide.2 (unhide CD))).mono ?_⟩
      all_goals rintro e W2 ⟨rfl, vs2, vg2, hm2, ht2⟩
      all_goals have hI2 := ((unhide HI).later (Below.refl _ W1).drew).did hn ⟨by omega, by omega, by omega⟩ hm2 ht2
      all_goals have HK2 := hide (MTn.keeps ((unhide HI).mm.later (Below.refl _ W1).drew) ht2)
      all_goals have HQ2 := hide (MTn.kp (l := l1) (Bt := n + 1) ((unhide HI).mm.later (Below.refl _ W1).drew) ht2 (by omega) (by omega) (by omega) (by omega))
      all_goals have b2 := hI2.box.cell 0 (by simp)
      all_goals simp only [List.getElem_cons_zero] at b2
      all_goals have g2 := hm2.row.cell? (i := 261) (mCells_tail 2)
      all_goals have HI2 := hide hI2
      all_goals clear hI2 hm2 ht2 CD d0 d1 d2 d3 d4 b0 g0
      all_goals by_cases hxx : ac.2.2.2.exit = 0
      all_goals gi_wp2_with fail
      all_goals first
        | exact ⟨(keepsBelow _ (Below.refl _ W1).drew).trans (hVs ▸ unhide HK2), (KpI.below (by have := (unhide HI).mm.lw; omega) (Below.refl _ W1).drew).trans (unhide HQ2), _, _, _, _, _, _, _, (unhide HNT).1 hxx, unhide HI2⟩
        | exact ⟨(keepsBelow _ (Below.refl _ W1).drew).trans (hVs ▸ unhide HK2), (KpI.below (by have := (unhide HI).mm.lw; omega) (Below.refl _ W1).drew).trans (unhide HQ2), rfl, _, _, _, _, _, by rw [← (unhide HNT).2 hxx]; exact unhide HI2⟩
  case done =>
    rintro Dd W1 hD ⟨p, st, fl, go, D, vs, vg, hS, hI⟩ hK
    obtain ⟨f, hInv⟩ := hS.inv
    have hpe : ¬ p < s.data.toList.length := by
      intro hp
      by_cases hw : Pl.whole s.data.toList p
      · obtain ⟨g, h1, h2⟩ := hInv.step hp hw
        have := congrArg List.length h1
        simp at this
      · have h1 := hInv.bad hp hw
        have := congrArg List.length h1
        simp at this
    have hDR : D = R := hS.en.stop (fun e => hpe (by omega))
    have hI3 := hI.own (Y := W1.putObj Dd (.deferred none)) hn (grownBy_putObj' W1 Dd (.deferred none)) (fun r e => by cases e; exact ⟨by omega, _, hK, rfl⟩)
    have HI3 := hide hI3
    have HDR := hide hDR
    clear hS hInv hpe hDR hI hI3
    gi_wp2_with fail
    refine ⟨by simp, .inl ⟨_, _, rfl, run_takeDeferred hK, ?_⟩⟩
    refine ⟨.tuple #[], ?_, rfl, ⟨vs, vg, st, fl, go, by rw [hR, ← unhide HDR, hn]; exact (unhide HI3).mm⟩, (unhide HI3).tn⟩
    exact results_none rfl _ _ _
  case stop =>
    rintro Dd c pre post W1 hD hL ⟨rfl, vs, vg, st, fl, go, hI⟩ hK
    have hI3 := hI.own (Y := W1.putObj Dd (.deferred none)) hn (grownBy_putObj' W1 Dd (.deferred none)) (fun r e => by cases e; exact ⟨by omega, _, hK, rfl⟩)
    have HI3 := hide hI3
    clear hI hI3
    gi_wp2_with fail
    refine ⟨by simp, .inl ⟨_, _, rfl, run_takeDeferred hK, ?_⟩⟩
    refine ⟨.tuple #[], ?_, rfl, ⟨vs, vg, st, fl, go, by rw [hR, hn]; exact (unhide HI3).mm⟩, (unhide HI3).tn⟩
    exact results_none rfl _ _ _
end Go.Proofs.YtjelacjggijmfaaGreatDoor
