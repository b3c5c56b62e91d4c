/-
  The small functions of package lines that call nothing: what each answers.
-/
import Derived.Test.YtjelacjggijmfaaDoorChecked
import Derived.WalkKit
import Derived.WalkSpells
import Derived.WalkLawsBesides
import Derived.Lib.Strings
import Derived.Test.YtjelacjggijmfaaDoorPure
namespace Go.Proofs.YtjelacjggijmfaaDoor
open Go.RowKit

theorem hide {p : Prop} (h : p) : Hid p := h
theorem unhide {p : Prop} (h : Hid p) : p := h
theorem bcell {W w1 : World} (hb : Below W.heap.size W w1) : (∀ b o, b < W.heap.size → w1.cell? ⟨b, o, none⟩ = W.cell? ⟨b, o, none⟩) ∧ (∀ b o, b < W.heap.size → w1.frozen? ⟨b, o, none⟩ = W.frozen? ⟨b, o, none⟩) :=
  ⟨fun b o h => hb.cell (p := ⟨b, o, none⟩) h, fun b o h => hb.frozen (p := ⟨b, o, none⟩) h⟩
/-- A block of four cells. -/
def Box4 (w : World) (b : Nat) (t : TypeId) (a0 a1 a2 a3 : Value) : Prop := w.heap[b]? = some (.cells #[a0, a1, a2, a3] t (0, 0))
theorem Box4.new (w : World) (t : TypeId) (a0 a1 a2 a3 : Value) : Box4 (w.alloc (.cells #[a0, a1, a2, a3] t)) w.heap.size t a0 a1 a2 a3 := by show (w.heap.push _)[w.heap.size]? = _; simp
theorem Box4.lt {w : World} {b : Nat} {t : TypeId} {a0 a1 a2 a3 : Value} (h : Box4 w b t a0 a1 a2 a3) : b < w.heap.size := (Array.getElem?_eq_some_iff.1 h).1
theorem Box4.later {w w' : World} {b : Nat} {t : TypeId} {a0 a1 a2 a3 : Value} (h : Box4 w b t a0 a1 a2 a3) (hb : Below w.heap.size w w') : Box4 w' b t a0 a1 a2 a3 := (hb.block b h.lt).trans h
theorem Box4.alloc {w : World} {b : Nat} {t : TypeId} {a0 a1 a2 a3 : Value} (h : Box4 w b t a0 a1 a2 a3) (o : Obj) : Box4 (w.alloc o) b t a0 a1 a2 a3 := (Below.heap_alloc w o b h.lt).trans h
theorem Box4.cells {w : World} {b : Nat} {t : TypeId} {a0 a1 a2 a3 : Value} (h : Box4 w b t a0 a1 a2 a3) :
    (w.cell? ⟨b, 0, none⟩ = some a0 ∧ w.cell? ⟨b, 1, none⟩ = some a1 ∧ w.cell? ⟨b, 2, none⟩ = some a2 ∧ w.cell? ⟨b, 3, none⟩ = some a3) ∧
    (w.frozen? ⟨b, 0, none⟩ = false ∧ w.frozen? ⟨b, 1, none⟩ = false ∧ w.frozen? ⟨b, 2, none⟩ = false ∧ w.frozen? ⟨b, 3, none⟩ = false) := by
  unfold Box4 at h
  simp [World.cell?, World.frozen?, h]
theorem ret_bool {a b : Bool} (h : a = b) : Ending.returned (.bool a) = .returned (.bool b) := by rw [h]
theorem ret_int {k : IntKind} {a b : Int} (h : a = b) : Ending.returned (.int k a) = .returned (.int k b) := by rw [h]
theorem ret_str {a b : ByteArray} (h : a = b) : Ending.returned (.string a) = .returned (.string b) := by rw [h]
def blkI (r : Int) : Bool := r == 32 || r == 9
def letterI (r : Int) : Bool := (decide (65 ≤ r) && decide (r ≤ 90)) || (decide (97 ≤ r) && decide (r ≤ 122)) || (decide (48 ≤ r) && decide (r ≤ 57)) || r == 95
set_option maxHeartbeats 400000 in
theorem isBlank_any (r : Int) (w : World) :
    Calls Tryd.prog 51 #[.int .i32 r] w fun e w' => e = .returned (.bool (blkI r)) ∧ w = w' := by
  go_enter Tryd.func51, Tryd.ntmps51
  go_wp2
  all_goals go_ret
  all_goals (refine ⟨?_, rfl⟩; simp [blkI, *])
set_option maxHeartbeats 400000 in
theorem isLetter_any (r : Int) (w : World) :
    Calls Tryd.prog 82 #[.int .i32 r] w fun e w' => e = .returned (.bool (letterI r)) ∧ w = w' := by
  go_enter Tryd.func82, Tryd.ntmps82
  go_wp2
  all_goals go_ret
  all_goals (refine ⟨ret_bool ?_, rfl⟩; rw [Bool.eq_iff_iff]; simp [letterI]; try omega)
end Go.Proofs.YtjelacjggijmfaaDoor
