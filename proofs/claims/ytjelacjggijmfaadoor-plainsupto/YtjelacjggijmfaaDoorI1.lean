/-
  The iterator over the lines of a text, those that go on put together: what it gives, round by round.
-/
import Derived.Test.YtjelacjggijmfaaDoorW9
import Derived.Test.YtjelacjggijmfaaDoorRf
import Derived.RangeFuncCalls
import Derived.Shelf.Abstract
import Derived.Shelf.RegionOpen
import Derived.OwnWalkIn
import Derived.TacticsInMore
import Derived.LoopNIn
import Derived.LoopIn
namespace Go.Proofs.YtjelacjggijmfaaDoor
open Go.RowKit Go.Shelf
attribute [local go_sem] Oper.semAt_some

def encJ (x : Nat × List UInt8) : Array Value := #[.int .i64 x.1, .string ⟨x.2.toArray⟩]
def KpG (W W' : World) : Prop := Glob W → Glob W'
theorem below_grown {w w' : World} (hb : Below w.heap.size w w') : w.grownBy w' none := ⟨hb.os, hb.tape, hb.output, hb.size, fun k hk _ => hb.block k hk⟩
theorem take1_rest : ∀ (ps : List (List UInt8)) (acc : List UInt8) (used : Nat) (p : List UInt8), (Mk.take1 acc used p ps).2.2.length ≤ ps.length
  | [], _, _, _ => Nat.le_refl _
  | q :: qs, acc, used, p => by
    unfold Mk.take1
    split
    · exact Nat.le_trans (take1_rest qs _ _ _) (by simp)
    · exact Nat.le_refl _
theorem OwnDrew {β : Type} {B : Nat} {J : β → World → Prop} (h : OwnFrom B J) {s : β} {W : World} (hs : J s W) : J s W.drew :=
  h s W _ none hs ⟨rfl, rfl, rfl, Nat.le_refl _, fun _ _ _ => rfl⟩ (fun r e => by cases e)
theorem OwnBelow {β : Type} {B : Nat} {J : β → World → Prop} (h : OwnFrom B J) {s : β} {W W' : World} (hs : J s W) (hb : Below W.heap.size W W') : J s W' :=
  h s W W' none hs (below_grown hb) (fun r e => by cases e)
/-- What holds between two rounds: what has come, and what is left. -/
structure JoinInv (t : List UInt8) (pre : List (Nat × List UInt8)) (f n : Nat) (rl : List UInt8) (m : Bool) : Prop where
  eq : Mk.joined t = pre ++ Mk.joinF f n (Mk.rs rl m)
  fuel : (Mk.rs rl m).length ≤ f
  num : n + rl.length + (if m then 1 else 0) ≤ t.length + 2
  len : rl.length ≤ t.length
theorem JoinInv.start (t : List UInt8) : JoinInv t [] (Mk.segs t).length 1 t true :=
  ⟨rfl, Nat.le_refl _, by simp only [if_true]; omega, Nat.le_refl _⟩
theorem JoinInv.round {t : List UInt8} {pre : List (Nat × List UInt8)} {f n : Nat} {rl : List UInt8} (h : JoinInv t pre f n rl true) {whole rest : List UInt8} {used : Nat} {more : Bool}
    (he : Mk.take1 [] 1 (Mk.before 10 rl) (Mk.rs (Mk.after 10 rl) (Mk.has 10 rl)) = (whole, used, Mk.rs rest more))
    (hl : whole.length + rest.length + (if more then 1 else 0) ≤ rl.length) (hu : used + rest.length + (if more then 1 else 0) ≤ 1 + rl.length) :
    ∃ g post, Mk.joined t = pre ++ (n, whole) :: post ∧ JoinInv t (pre ++ [(n, whole)]) g (n + used) rest more := by
  obtain ⟨h1, h2, h3, h4⟩ := h
  simp only [if_true] at h3
  have hs : Mk.rs rl true = Mk.before 10 rl :: Mk.rs (Mk.after 10 rl) (Mk.has 10 rl) := Mk.segs_eq rl
  rw [hs] at h1 h2
  rw [List.length_cons] at h2
  obtain ⟨g, rfl⟩ : ∃ g, f = g + 1 := ⟨f - 1, by omega⟩
  rw [Mk.joinF, he] at h1
  have hr := take1_rest (Mk.rs (Mk.after 10 rl) (Mk.has 10 rl)) [] 1 (Mk.before 10 rl)
  rw [he] at hr
  simp only at h1 hr
  exact ⟨g, _, h1, by rw [h1]; simp, by omega, by omega, by omega⟩
theorem JoinInv.done {t : List UInt8} {pre : List (Nat × List UInt8)} {f n : Nat} {rl : List UInt8} (h : JoinInv t pre f n rl false) : Mk.joined t = pre := by
  have := h.eq
  rw [this]
  cases f <;> simp [Mk.rs, Mk.joinF]
set_option maxHeartbeats 1000000 in
theorem joined_iter (t : List UInt8) (Bt : Nat) (w : World) (hT : t.length ≤ 1073741824) (hg : Glob w) (hBt : w.cell? ⟨Bt, 0, none⟩ = some (.string ⟨t.toArray⟩)) :
    Mk.Iter Tryd.prog 31 #[.pointer (some ⟨Bt, 0, none⟩)] encJ (fun _ => KpG) (Mk.joined t) w := by
  intro l J Jx W _ hW hJ hJx hY h0
  have hBt2 : W.cell? ⟨Bt, 0, none⟩ = some (.string ⟨t.toArray⟩) := (hW.cell (p := ⟨Bt, 0, none⟩) (World.block_lt_of_cell? w _ hBt)).trans hBt
  have hgW := hg.later hW
  refine callsIn_of_wp Tryd.func31 rfl trivial ?_
  simp only [Tryd.ntmps31, List.size_toArray, List.length_cons, List.length_nil, Nat.reduceAdd, Nat.reduceSub, Array.replicate_succ, Array.replicate_zero, List.push_toArray, List.append_toArray, List.nil_append, List.cons_append]
  gi_wp2
  gi_region
  gi_wp2
  gi_loopw [3, 4, 5] (fun num rest more wr => ∃ (pre : List (Nat × List UInt8)) (f n : Nat) (rl : List UInt8) (m : Bool), num = .int .i64 n ∧ rest = .string ⟨rl.toArray⟩ ∧ more = .bool m ∧
      Hid (JoinInv t pre f n rl m) ∧ Hid (J pre wr) ∧ Glob wr) (fun _ rest more _ => strLen rest + moreN more)
  case atStart =>
    exact ⟨[], _, 1, t, true, rfl, rfl, rfl, JoinInv.start t, OwnDrew hJ h0, hgW.later (Below.refl _ _).drew⟩
  case round =>
    obtain ⟨pre, f, n, rl, m, rfl, rfl, rfl, hI, hJs, hgr⟩ := hrel
    cases m with
    | false =>
      have HD := hide (unhide hI).done
      gi_wp2
      go_end0
      exact ⟨⟨_, rfl⟩, .inl (by rw [unhide HD]; exact unhide hJs)⟩
    | true =>
      have hrl := (unhide hI).len
      have hnum := (unhide hI).num
      simp only [if_true] at hnum
      gi_wp2_with fail
      refine ⟨trivial, (callsIn_wide.2 (takeLine_any rl _ (by omega) hgr)).mono ?_⟩
      rintro e w2 ⟨whole, used, rest, more, rfl, he, hl, hu, hb⟩
      obtain ⟨g, post, hLeq, hI2⟩ := (unhide hI).round he hl hu
      have hJ2 := OwnBelow hJ (unhide hJs) hb
      obtain ⟨fn, tmps, assign, body, hy, hR⟩ := hY pre (n, whole) post w2 hLeq hJ2
      have HI2 := hide hI2
      have HR := hide hR
      have hg2 := hgr.later hb
      have HX : Hid (∀ W', Jx (pre ++ [(n, whole)]) W' → ∃ pre post, Mk.joined t = pre ++ post ∧ Jx pre W') := fun W' hx => ⟨_, post, by rw [hLeq]; simp, hx⟩
      have HL := hide hl
      clear hI2 hR hLeq he hb hJ2 hJs hI hl
      unfold takeRes
      unfold encJ at hy
      simp only at hy
      gi_wp2_with fail
      refine (Mk.roundIn_any (unhide HR)).mono ?_
      rintro e W3 (⟨rfl, hJ3, hk3⟩ | ⟨rfl, hJx3, -⟩)
      · have HJ3 := hide hJ3
        have hg3 := hk3 hg2
        have hun : used ≤ 1 + rl.length := by omega
        clear hJ3 hk3 hu HR hy
        gi_wp2_with fail
        go_roundw
        case rel => exact ⟨pre ++ [(n, whole)], g, n + used, rest, more, by go_num, rfl, rfl, HI2, HJ3, hg3⟩
        case measure =>
          have h1 : (⟨rest.toArray⟩ : ByteArray).size = rest.length := size_mk _
          have h2 : (⟨rl.toArray⟩ : ByteArray).size = rl.length := size_mk _
          have h3 := unhide HL
          simp only [strLen, moreN, if_true, h1, h2]
          omega
      · gi_wp2_with fail
        refine bodyPost_ret (results_none rfl _ _ _) rfl ?_
        exact ⟨⟨_, rfl⟩, .inr (unhide HX _ hJx3)⟩
end Go.Proofs.YtjelacjggijmfaaDoor
