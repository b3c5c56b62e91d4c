/-
  Segments of a text and what is taken of them for one line.
-/
import Derived.Test.YtjelacjggijmfaaDoorPureB
namespace Go.Mk

def rs (rest : Bs) (more : Bool) : List Bs := if more then segs rest else []
theorem segs_eq (t : Bs) : segs t = before 10 t :: rs (after 10 t) (has 10 t) := by
  unfold has
  induction t with
  | nil => rfl
  | cons c r ih =>
    unfold segs
    by_cases h : c = 10
    · subst h
      simp [before, rs, after]
    · have hb : (c == 10) = false := by simpa using h
      have hn : ((10 : UInt8) == c) = false := by simpa using fun e => h e.symm
      rw [hb, ih, List.contains_cons, hn]
      simp only [Bool.false_eq_true, if_false, List.headD_cons, List.tail_cons, Bool.false_or]
      have h1 : before 10 (c :: r) = c :: before 10 r := by unfold before; rw [List.takeWhile_cons, hb]; rfl
      have h2 : after 10 (c :: r) = after 10 r := by unfold after; rw [List.dropWhile_cons, hb]; rfl
      rw [h1, h2]
theorem before_after (c : UInt8) (t : Bs) : (before c t).length + (after c t).length + (if has c t then 1 else 0) = t.length := by
  unfold has
  induction t with
  | nil => rfl
  | cons x r ih =>
    by_cases h : x = c
    · subst h
      simp [before, after]
    · have hb : (x == c) = false := by simpa using h
      have hn : (c == x) = false := by simpa using fun e => h e.symm
      have h1 : before c (x :: r) = x :: before c r := by unfold before; rw [List.takeWhile_cons, hb]; rfl
      have h2 : after c (x :: r) = after c r := by unfold after; rw [List.dropWhile_cons, hb]; rfl
      rw [h1, h2, List.contains_cons, hn, Bool.false_or, List.length_cons, List.length_cons]
      omega
theorem segs_ne (t : Bs) : segs t ≠ [] := by rw [segs_eq]; simp
/-- One line that goes on. -/
theorem take1_on (acc : Bs) (used : Nat) (p rest : Bs) (h : endsBack p = true) :
    take1 acc used p (rs rest true) = take1 (acc ++ p.dropLast ++ [32]) (used + 1) (cutL (before 10 rest)) (rs (after 10 rest) (has 10 rest)) := by
  unfold rs
  rw [if_pos rfl, segs_eq rest, take1, h]; rfl
theorem take1_end (acc : Bs) (used : Nat) (p rest : Bs) (h : endsBack p = false) : take1 acc used p (rs rest true) = (acc ++ p, used, rs rest true) := by
  unfold rs
  rw [if_pos rfl, segs_eq rest, take1, h]; rfl
theorem take1_last (acc : Bs) (used : Nat) (p rest : Bs) : take1 acc used p (rs rest false) = (acc ++ noBack p, used, rs rest false) := by
  unfold rs
  simp [take1]
end Go.Mk
