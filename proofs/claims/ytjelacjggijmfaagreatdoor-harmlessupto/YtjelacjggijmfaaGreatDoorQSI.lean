/-
  Package plans: is a plan sound?
  The iterator over the instructions of a code: what it gives, round by round.
-/
import Derived.Test.YtjelacjggijmfaaGreatDoorQSP4
import Derived.RangeFuncCalls
import Derived.Shelf.Abstract
import Derived.Shelf.RegionOpen
import Derived.OwnWalkIn
import Derived.TacticsInMore
import Derived.LoopNIn
import Derived.LoopIn
namespace Go.Proofs.YtjelacjggijmfaaGreatDoor
open Go.RowKit Go.Shelf
attribute [local go_sem] Oper.semAt_some

def encI (x : Pl.Ins × Bool) : Array Value := #[insV x.1, .bool x.2]
theorem below_grown {w w' : World} (hb : Below w.heap.size w w') : w.grownBy w' none := ⟨hb.os, hb.tape, hb.output, hb.size, fun k hk _ => hb.block k hk⟩
theorem OwnDrew {β : Type} {B : Nat} {J : β → World → Prop} (h : OwnFrom B J) {s : β} {W : World} (hs : J s W) : J s W.drew :=
  h s W _ none hs ⟨rfl, rfl, rfl, Nat.le_refl _, fun _ _ _ => rfl⟩ (fun r e => by cases e)
theorem OwnBelow {β : Type} {B : Nat} {J : β → World → Prop} (h : OwnFrom B J) {s : β} {W W' : World} (hs : J s W) (hb : Below W.heap.size W W') : J s W' :=
  h s W W' none hs (below_grown hb) (fun r e => by cases e)
theorem keepsBelow (B : Nat) {W W' : World} (hb : Below W.heap.size W W') : KeepsFrom B W W' :=
  ⟨hb.size, fun k1 _ _ ho _ => (hb.block k1 (Array.getElem?_eq_some_iff.1 ho).1).trans ho⟩
/-- What a round over the instructions keeps: the box of the code, and the boxes that hold an instruction. -/
structure KpI (Bt : Nat) (_ : Nat) (W W' : World) : Prop where
  text : ∀ (c : Array Value) (f : Nat × Nat), W.heap[Bt]? = some (Obj.cells c 9 f) → W'.heap[Bt]? = some (Obj.cells c 9 f)
  ins : ∀ (k : Nat) (c : Array Value) (f : Nat × Nat), W.heap[k]? = some (Obj.cells c 254 f) → W'.heap[k]? = some (Obj.cells c 254 f)
  size : W.heap.size ≤ W'.heap.size
theorem KpI.trans {Bt l : Nat} {A B C : World} (h : KpI Bt l A B) (k : KpI Bt l B C) : KpI Bt l A C :=
  ⟨fun c f e => k.text c f (h.text c f e), fun j c f e => k.ins j c f (h.ins j c f e), Nat.le_trans h.size k.size⟩
theorem KpI.putObj (Bt : Nat) (W : World) (l : Nat) (o o' : Obj) (hl : W.heap[l]? = some o) (ho : o.isCells = false) : KpI Bt l W (W.putObj l o') := by
  refine ⟨fun c f h => ?_, fun k c f h => ?_, (grownBy_putObj' W l o').size⟩
  all_goals refine (World.putObj_heap_other ?_).trans h
  all_goals rintro rfl
  all_goals (rw [h] at hl; cases hl; cases ho)
theorem KpI.below {Bt l : Nat} {W W' : World} (hB : Bt < W.heap.size) (hb : Below W.heap.size W W') : KpI Bt l W W' :=
  ⟨fun _ _ h => (hb.block Bt hB).trans h, fun k _ _ h => (hb.block k (Array.getElem?_eq_some_iff.1 h).1).trans h, hb.size⟩
/-- What holds between two rounds: what has come, and where it stands. -/
structure InsInv (c : Pl.Bs) (pre : List (Pl.Ins × Bool)) (f p : Nat) : Prop where
  eq : Pl.ilist c (c.length + 1) 0 = pre ++ Pl.ilist c f p
  fuel : c.length < f + p
  le : p ≤ c.length
theorem InsInv.start (c : Pl.Bs) : InsInv c [] (c.length + 1) 0 := ⟨rfl, by omega, Nat.zero_le _⟩
theorem InsInv.done {c : Pl.Bs} {pre : List (Pl.Ins × Bool)} {f p : Nat} (h : InsInv c pre f p) (hp : ¬ p < c.length) : Pl.ilist c (c.length + 1) 0 = pre := by
  rw [h.eq]
  cases f with
  | zero => simp [Pl.ilist]
  | succ f => rw [Pl.ilist, if_neg hp]; simp
theorem InsInv.step {c : Pl.Bs} {pre : List (Pl.Ins × Bool)} {f p : Nat} (h : InsInv c pre f p) (hp : p < c.length) (hw : Pl.whole c p) :
    ∃ g, Pl.ilist c (c.length + 1) 0 = pre ++ (Pl.mkIns c p, true) :: Pl.ilist c g (Pl.mkIns c p).next ∧ InsInv c (pre ++ [(Pl.mkIns c p, true)]) g (Pl.mkIns c p).next := by
  have hf := h.fuel
  obtain ⟨g, rfl⟩ : ∃ g, f = g + 1 := ⟨f - 1, by omega⟩
  have e := h.eq
  rw [show Pl.ilist c (g + 1) p = (Pl.mkIns c p, true) :: Pl.ilist c g (Pl.mkIns c p).next from (by rw [Pl.ilist, if_pos hp]; exact if_pos hw)] at e
  have := Pl.next_gt hw
  exact ⟨g, e, by rw [e]; simp, by omega, Pl.next_le hw⟩
theorem InsInv.bad {c : Pl.Bs} {pre : List (Pl.Ins × Bool)} {f p : Nat} (h : InsInv c pre f p) (hp : p < c.length) (hw : ¬ Pl.whole c p) :
    Pl.ilist c (c.length + 1) 0 = pre ++ [(⟨0, 0, 0, 0, 0⟩, false)] := by
  have hf := h.fuel
  obtain ⟨g, rfl⟩ : ∃ g, f = g + 1 := ⟨f - 1, by omega⟩
  have e := h.eq
  rwa [show Pl.ilist c (g + 1) p = [(⟨0, 0, 0, 0, 0⟩, false)] from (by rw [Pl.ilist, if_pos hp]; exact if_neg hw)] at e
def intN : Value → Nat
  | .int _ n => n.toNat
  | _ => 0
set_option maxHeartbeats 400000 in
theorem instructions_any (s : ByteArray) (w : World) :
    Calls Tryz.prog 129 #[.string s] w fun e w' => e = .returned (.func (.func 169) #[] #[.pointer (some ⟨w.heap.size, 0, none⟩)]) ∧ w.alloc (.cells #[.string s] 9) = w' := by
  go_enter Tryz.func129, Tryz.ntmps129
  go_wp2
  go_ret
  exact ⟨rfl, rfl⟩
set_option maxHeartbeats 1000000 in
theorem ins_iter (s : ByteArray) (Bt : Nat) (w : World) (hs : s.size ≤ 8388608) (hBt : w.heap[Bt]? = some (.cells #[.string s] 9 (0, 0))) :
    Mk.Iter Tryz.prog 169 #[.pointer (some ⟨Bt, 0, none⟩)] encI (KpI Bt) (Pl.ilist s.data.toList (s.data.toList.length + 1) 0) w := by
  intro l J Jx W hlW hW hJ hJx hY h0
  have hBl : Bt < w.heap.size := (Array.getElem?_eq_some_iff.1 hBt).1
  have hB2 : W.heap[Bt]? = some (.cells #[.string s] 9 (0, 0)) := (hW.block Bt hBl).trans hBt
  refine callsIn_of_wp Tryz.func169 rfl trivial ?_
  simp only [Tryz.ntmps169, List.size_toArray, List.length_cons, List.length_nil, Nat.reduceAdd, Nat.reduceSub, Array.replicate_succ, Array.replicate_zero, List.push_toArray, List.append_toArray, List.nil_append, List.cons_append]
  gi_wp2
  gi_loopw [3] (fun at_ wr => ∃ (pre : List (Pl.Ins × Bool)) (f p : Nat), at_ = .int .i64 p ∧ Hid (InsInv s.data.toList pre f p) ∧ Hid (J pre wr) ∧ Hid (wr.heap[Bt]? = some (.cells #[.string s] 9 (0, 0)))) (fun at_ _ => s.size - intN at_)
  case atStart =>
    exact ⟨[], _, 0, rfl, InsInv.start _, h0, hB2⟩
  case round =>
    obtain ⟨pre, f, p, rfl, hI, hJs, hBr⟩ := hrel
    have hsz := Lib.size_eq s
    have hpl := (unhide hI).le
    rw [← hsz] at hpl
    have hcell : wr.cell? ⟨Bt, 0, none⟩ = some (.string s) := by have := unhide hBr; simp [World.cell?, this]
    have hBw : Bt < wr.heap.size := (Array.getElem?_eq_some_iff.1 (unhide hBr)).1
    by_cases hp : p < s.size
    · have hp' : p < s.data.toList.length := by omega
      by_cases hw : Pl.whole s.data.toList p
      · obtain ⟨g, hLeq, hI2⟩ := (unhide hI).step hp' hw
        have HC := hide (insAt_yes s p wr hp hs hw)
        have hnx := Pl.next_le hw
        rw [← hsz] at hnx
        have hgt := Pl.next_gt hw
        generalize Pl.mkIns s.data.toList p = i at *
        have HI2 := hide hI2
        have HL := hide hLeq
        clear hI2 hLeq hsz hp' hw hI
        gi_wp2_with fail
        refine ⟨trivial, (callsIn_wide.2 (unhide HC)).mono ?_⟩
        rintro e w2 ⟨rfl, hb2⟩
        obtain ⟨op, at1, nx, F, G⟩ := i
        simp only at hnx hgt
        have hJ2 := OwnBelow hJ (unhide hJs) (hb2.alloc hb2.size (.cells #[.int .u8 op, .int .i64 at1, .int .i64 nx, .int .i64 F, .int .i64 G] 254))
        obtain ⟨fn, tmps, assign, body, hy, hR⟩ := hY pre _ _ _ (unhide HL) hJ2
        have HR := hide hR
        have hB3 : (w2.alloc (.cells #[.int .u8 op, .int .i64 at1, .int .i64 nx, .int .i64 F, .int .i64 G] 254)).heap[Bt]? = some (.cells #[.string s] 9 (0, 0)) := ((hb2.alloc hb2.size _).block Bt hBw).trans (unhide hBr)
        have HB3 := hide hB3
        have hbx : (w2.alloc (.cells #[.int .u8 op, .int .i64 at1, .int .i64 nx, .int .i64 F, .int .i64 G] 254)).heap[w2.heap.size]? = some (.cells #[.int .u8 op, .int .i64 at1, .int .i64 nx, .int .i64 F, .int .i64 G] 254 (0, 0)) := World.alloc_heap_new w2 _
        have HBX := hide hbx
        have HX : Hid (∀ W', Jx (pre ++ [((⟨op, at1, nx, F, G⟩ : Pl.Ins), true)]) W' → ∃ pre post, Pl.ilist s.data.toList (s.data.toList.length + 1) 0 = pre ++ post ∧ Jx pre W') := fun W' hx => ⟨_, _, by rw [unhide HL, List.append_cons], hx⟩
        clear hR hJ2 hJs hB3 hbx hb2 HL HC
        unfold insV
        unfold encI insV at hy
        simp only at hy ⊢
        gi_wp2_with fail
        refine (Mk.roundIn_any (unhide HR)).mono ?_
        rintro e W3 (⟨rfl, hJ3, hk3⟩ | ⟨rfl, hJx3, -⟩)
        · have HJ3 := hide hJ3
          have hbx3 := hk3.ins _ _ _ (unhide HBX)
          have hn3 : W3.cell? ⟨w2.heap.size, 2, none⟩ = some (.int .i64 nx) := by simp [World.cell?, hbx3]
          have HB4 := hide (hk3.text _ _ (unhide HB3))
          clear hJ3 hk3 hbx3 HR hy HB3 HBX
          gi_wp2_with fail
          go_roundw
          case rel => exact ⟨_, g, nx, rfl, HI2, HJ3, HB4⟩
          case measure => simp only [intN]; omega
        · clear hy
          gi_wp2_with fail
          refine bodyPost_ret (results_none rfl _ _ _) rfl ?_
          exact ⟨⟨_, rfl⟩, .inr (unhide HX _ hJx3)⟩
      · have HL := hide ((unhide hI).bad hp' hw)
        have HC := hide (insAt_no s p wr hp hs hw)
        clear hsz hp' hw hI
        gi_wp2_with fail
        refine ⟨trivial, (callsIn_wide.2 (unhide HC)).mono ?_⟩
        rintro e w2 ⟨rfl, hb2⟩
        have hJ2 := OwnBelow hJ (unhide hJs) (hb2.alloc hb2.size (.cells #[.int .u8 0, .int .i64 0, .int .i64 0, .int .i64 0, .int .i64 0] 254))
        obtain ⟨fn, tmps, assign, body, hy, hR⟩ := hY pre _ [] _ (unhide HL) hJ2
        have HR := hide hR
        clear hR hJ2 hJs hb2 HC
        unfold insV
        unfold encI insV at hy
        have z0 : ((0 : Nat) : Int) = 0 := rfl
        simp only [z0] at hy ⊢
        clear z0
        gi_wp2_with fail
        refine (Mk.roundIn_any (unhide HR)).mono ?_
        rintro e W3 (⟨rfl, hJ3, -⟩ | ⟨rfl, hJx3, -⟩)
        · clear hy
          gi_wp2_with fail
          refine bodyPost_ret (results_none rfl _ _ _) rfl ?_
          exact ⟨⟨_, rfl⟩, .inl (by rw [unhide HL]; exact hJ3)⟩
        · clear hy
          gi_wp2_with fail
          refine bodyPost_ret (results_none rfl _ _ _) rfl ?_
          exact ⟨⟨_, rfl⟩, .inr ⟨_, [], by rw [unhide HL, List.append_nil], hJx3⟩⟩
    · have HD := hide ((unhide hI).done (by omega))
      clear hsz
      gi_wp2
      go_end0
      exact ⟨⟨_, rfl⟩, .inl (by rw [unhide HD]; exact unhide hJs)⟩
end Go.Proofs.YtjelacjggijmfaaGreatDoor
namespace Go.Proofs.YtjelacjggijmfaaGreatDoor
open Go.RowKit Go.Shelf Go.Maps
attribute [local go_sem] Oper.semAt_some

/-- Between two rounds: the plan, the result, the walk. -/
structure SoundI (n : Nat) (w : World) (sl : Value) (s : ByteArray) (m h k : Nat) (D : DataW Unit) (W : World) : Prop where
  plan : Row W n 120 [sl, .string s]
  res : Row W (n + 1) 4 [.bool false]
  map : Mw W (n + 2) k D
  walk : Row W (n + 3) 249 [.int .i64 m, .int .i64 h, .map (some (n + 2))]
  below : Below n w W
  size : n + 5 ≤ W.heap.size
theorem Mw.own (B b k : Nat) (D : DataW Unit) (hb : b < B) {β : Type} : OwnFrom B (fun (_ : β) W => Mw W b k D) := fun _ X Y row hs hg hr =>
  hs.kept hg (fun e => by have := (hr b e.symm).1; omega)
theorem SoundI.own {n : Nat} {w : World} {sl : Value} {s : ByteArray} {m h k : Nat} {D : DataW Unit} {B : Nat} {β : Type} (hB : n + 5 ≤ B) : OwnFrom B (fun (_ : β) W => SoundI n w sl s m h k D W) := fun _ X Y row hs hg hr =>
  ⟨Row.own B _ _ _ () X Y row hs.plan hg hr, Row.own B _ _ _ () X Y row hs.res hg hr, Mw.own B _ _ _ (by omega) () X Y row hs.map hg hr, Row.own B _ _ _ () X Y row hs.walk hg hr,
    hs.below.trans ⟨hg.os, hg.tape, hg.output, hg.size, fun k hk => hg.block k (by have := hs.size; omega) (fun e => by have := (hr k e.symm).1; omega)⟩, Nat.le_trans hs.size hg.size⟩
/-- A round has left: the result. -/
structure SoundX (n : Nat) (w : World) (W : World) : Prop where
  res : Row W (n + 1) 4 [.bool false]
  below : Below n w W
theorem SoundX.own {n : Nat} {w : World} {B : Nat} {β : Type} (hB : n ≤ B) : OwnFrom B (fun (_ : β) W => SoundX n w W) := fun _ X Y row hs hg hr =>
  ⟨Row.own B _ _ _ () X Y row hs.res hg hr, hs.below.trans ⟨hg.os, hg.tape, hg.output, hg.size, fun k hk => hg.block k (by have := hs.res.lt; omega) (fun e => by have := (hr k e.symm).1; omega)⟩⟩
/-- What a round may turn. -/
abbrev Inner (n : Nat) : World → World → Prop := Turned (fun k => k = n + 1 ∨ k = n + 2 ∨ k = n + 3)
theorem Inner.keeps {n : Nat} {X Y : World} (h : Inner n X Y) : KeepsFrom (n + 5) X Y :=
  ⟨h.size, fun k _ hk ho _ => (h.block k (Array.getElem?_eq_some_iff.1 ho).1 (by omega)).trans ho⟩
theorem Inner.kp {n l : Nat} {w : World} {sl : Value} {s : ByteArray} {m hh k : Nat} {D : DataW Unit} {X Y : World} (h : Inner n X Y) (hI : SoundI n w sl s m hh k D X) : KpI (n + 4) l X Y := by
  refine ⟨fun c f e => (h.block _ (Array.getElem?_eq_some_iff.1 e).1 (by omega)).trans e, fun j c f e => (h.block _ (Array.getElem?_eq_some_iff.1 e).1 ?_).trans e, h.size⟩
  rintro (rfl | rfl | rfl)
  · have := hI.res
    unfold Row at this
    rw [this] at e; cases e
  · obtain ⟨es, clock, hb, _⟩ := hI.map
    rw [hb] at e; cases e
  · have := hI.walk
    unfold Row at this
    rw [this] at e; cases e
theorem Inner.x {n : Nat} {w : World} {sl : Value} {s : ByteArray} {m hh k : Nat} {D : DataW Unit} {X Y : World} (h : Inner n X Y) (hI : SoundI n w sl s m hh k D X) (hr : Row Y (n + 1) 4 [.bool false]) : SoundX n w Y :=
  ⟨hr, h.below hI.below (by have := hI.size; omega) (fun k e => by omega)⟩
/-- What is known between two rounds. -/
structure SoundS (c : Pl.Bs) (m : Nat) (pre : List (Pl.Ins × Bool)) (p h k : Nat) (A : Pl.Aw) : Prop where
  inv : ∃ f, InsInv c pre f p
  spec : Pl.Spec c m 0 0 (fun _ => none) ↔ Pl.Spec c m p h A
  h16 : h ≤ 16
  le : k ≤ p
theorem SoundS.cut {c : Pl.Bs} {m : Nat} {pre post : List (Pl.Ins × Bool)} {x : Pl.Ins × Bool} {p h k : Nat} {A : Pl.Aw} (hS : SoundS c m pre p h k A) (hL : Pl.ilist c (c.length + 1) 0 = pre ++ x :: post) :
    p < c.length ∧ ((Pl.whole c p ∧ x = (Pl.mkIns c p, true) ∧ ∃ g, InsInv c (pre ++ [x]) g (Pl.mkIns c p).next) ∨ (¬ Pl.whole c p ∧ x = (⟨0, 0, 0, 0, 0⟩, false))) := by
  obtain ⟨f, hI⟩ := hS.inv
  by_cases hp : p < c.length
  · refine ⟨hp, ?_⟩
    by_cases hw : Pl.whole c p
    · obtain ⟨g, h1, h2⟩ := hI.step hp hw
      rw [hL] at h1
      have := List.append_cancel_left h1
      simp only [List.cons.injEq] at this
      obtain ⟨rfl, _⟩ := this
      exact .inl ⟨hw, rfl, g, h2⟩
    · have h1 := hI.bad hp hw
      rw [hL] at h1
      have := List.append_cancel_left h1
      simp only [List.cons.injEq] at this
      exact .inr ⟨hw, this.1⟩
  · have h1 := hI.done hp
    rw [hL] at h1
    simp at h1
theorem whole_op {c : Pl.Bs} {p : Nat} (hw : Pl.whole c p) : 1 ≤ (Pl.mkIns c p).op ∧ (Pl.mkIns c p).op ≤ 8 := by
  have hz := hw.1
  show 1 ≤ Pl.opAt c p ∧ Pl.opAt c p ≤ 8
  generalize Pl.opAt c p = op at *
  have h9 : ¬ (op = 0 ∨ 9 ≤ op) := fun h => hz (by unfold Pl.isz; repeat rw [if_neg (by omega)])
  omega
theorem first_le (c : Pl.Bs) (p : Nat) : (Pl.mkIns c p).first ≤ 65535 := by
  have h1 := Pl.two_lt c (p + 1)
  have h2 := Pl.opAt_lt c (p + 1)
  unfold Pl.mkIns
  simp only
  split
  · omega
  · split <;> omega
end Go.Proofs.YtjelacjggijmfaaGreatDoor
