/-
  A number of at most two bytes; taking a number, a string, off a text.
-/
import Derived.Test.YtjelacjggijmfaaGSB
import Derived.LoopN
import Derived.IntWalk
namespace Go.Proofs.Ytjelacjggijmfaa
open Go.RowKit

theorem wrap_in (n : Int) (h : -9223372036854775808 ≤ n ∧ n ≤ 9223372036854775807) : wrap64 n = n := by unfold wrap64; omega
theorem get_cut (s : ByteArray) (a b i : Nat) (h : i < (s.extract a b).size) (h' : a + i < s.size) : (s.extract a b)[i] = s[a + i] := by
  show (s.extract a b).data[i] = s.data[a + i]
  simp [ByteArray.data_extract]
theorem or_mul8 (a b : Nat) (h : b < 256) : (a * 256) ||| b = a * 256 + b := by
  have : a * 256 = a <<< 8 := by rw [Nat.shiftLeft_eq]
  rw [this, Nat.shiftLeft_add_eq_or_of_lt (by omega)]
theorem i64_or_nat (a b : Nat) (ha : a < 65536) (hb : b < 65536) : bits .or .i64 (a : Int) (b : Int) = ((a ||| b : Nat) : Int) := by
  have hx : a ||| b < 2 ^ 16 := Nat.or_lt_two_pow (by omega) (by omega)
  have e1 : (BitVec.ofInt 64 (a : Int)).toNat = a := by simp; omega
  have e2 : (BitVec.ofInt 64 (b : Int)).toNat = b := by simp; omega
  show IntKind.i64.wrap ((BitVec.ofInt 64 (a : Int) ||| BitVec.ofInt 64 (b : Int)).toNat : Int) = _
  rw [BitVec.toNat_or, e1, e2]
  have : (((a ||| b : Nat) : Int)) < 65536 := by omega
  generalize (a ||| b) = c at *
  simp [IntKind.wrap, IntKind.signed, IntKind.bits]
  omega
theorem num1 (x : UInt8) : bits BinOp.or IntKind.i64 0 (wrap64 (x.toNat : Int)) = x.toNat := by
  have h := x.toNat_lt
  rw [wrap_in _ (by omega)]
  have := i64_or_nat 0 x.toNat (by omega) (by omega)
  rw [Nat.zero_or] at this
  exact this
theorem num2 (x y : UInt8) : bits BinOp.or IntKind.i64 (wrap64 (bits BinOp.or IntKind.i64 0 (wrap64 (x.toNat : Int)) * 256)) (wrap64 (y.toNat : Int)) = 256 * x.toNat + y.toNat := by
  have h := x.toNat_lt
  have h' := y.toNat_lt
  rw [num1, wrap_in _ (by omega), wrap_in _ (by omega)]
  have e : ((x.toNat : Int) * 256) = ((x.toNat * 256 : Nat) : Int) := by omega
  rw [e, i64_or_nat _ _ (by omega) (by omega), or_mul8 _ _ (by omega)]
  omega
set_option maxHeartbeats 400000 in
theorem number_0 (s : ByteArray) (w : World) (hs : s.size = 0) :
    Calls Try.prog 52 #[.string s] w fun e w' => e = .returned (.int .i64 0) ∧ w = w' := by
  go_enter Try.func52, Try.ntmps52
  go_wp2
  refine wp_loop_rounds 1 ?_
  rw [rounds_succ]; go_wp2
  all_goals go_ret
  all_goals exact ⟨rfl, rfl⟩
set_option maxHeartbeats 400000 in
theorem number_1 (s : ByteArray) (w : World) (hs : s.size = 1) :
    Calls Try.prog 52 #[.string s] w fun e w' => e = .returned (.int .i64 (s[0].toNat)) ∧ w = w' := by
  have h0 : 0 < s.size := by omega
  go_enter Try.func52, Try.ntmps52
  go_wp2
  refine wp_loop_rounds 2 ?_
  rw [rounds_succ]; go_wp2
  rw [rounds_succ]; go_wp2
  all_goals go_ret
  all_goals exact ⟨ret_int (num1 _), rfl⟩
set_option maxHeartbeats 400000 in
theorem number_2 (s : ByteArray) (w : World) (hs : s.size = 2) :
    Calls Try.prog 52 #[.string s] w fun e w' => e = .returned (.int .i64 (256 * s[0].toNat + s[1].toNat : Int)) ∧ w = w' := by
  have h0 : 0 < s.size := by omega
  have h1 : 1 < s.size := by omega
  go_enter Try.func52, Try.ntmps52
  go_wp2
  refine wp_loop_rounds 3 ?_
  rw [rounds_succ]; go_wp2
  rw [rounds_succ]; go_wp2
  rw [rounds_succ]; go_wp2
  all_goals go_ret
  all_goals exact ⟨ret_int (num2 _ _), rfl⟩
def numOf (t : ByteArray) : Nat := if t.size = 0 then 0 else if t.size = 1 then Pl.opAt t.data.toList 0 else Pl.two t.data.toList 0
theorem number_all (t : ByteArray) (w : World) (h : t.size ≤ 2) :
    Calls Try.prog 52 #[.string t] w fun e w' => e = .returned (.int .i64 (numOf t : Nat)) ∧ w = w' := by
  unfold numOf
  have : t.size = 0 ∨ t.size = 1 ∨ t.size = 2 := by omega
  rcases this with h | h | h
  · rw [if_pos h]; exact number_0 _ w h
  · rw [if_neg (by omega), if_pos h, opAt_get t 0 (by omega)]; exact number_1 _ w h
  · rw [if_neg (by omega), if_neg (by omega), two_get t 0 (by omega)]
    refine (number_2 _ w h).mono ?_
    rintro e w' ⟨rfl, rfl⟩
    exact ⟨ret_int (by simp), rfl⟩
theorem numOf_cut (s : ByteArray) (a n : Nat) (h : a + n ≤ s.size) (hn : n ≤ 2) : numOf (s.extract a (a + n)) = (if n = 0 then 0 else if n = 1 then Pl.opAt s.data.toList a else Pl.two s.data.toList a) := by
  have hz : (s.extract a (a + n)).size = n := by simp [ByteArray.size_extract]; omega
  unfold numOf
  rw [hz]
  by_cases h0 : n = 0
  · rw [if_pos h0, if_pos h0]
  rw [if_neg h0, if_neg h0]
  by_cases h1 : n = 1
  · rw [if_pos h1, if_pos h1, opAt_get _ 0 (by omega), opAt_get _ a (by omega), get_cut s a (a + n) 0 (by omega) (by omega)]; rfl
  · rw [if_neg h1, if_neg h1, two_get _ 0 (by omega), two_get _ a (by omega), get_cut s a (a + n) 0 (by omega) (by omega), get_cut s a (a + n) (0 + 1) (by omega) (by omega)]; rfl
/-- the number that a piece of a text of at most two bytes is -/
theorem number_cut (s : ByteArray) (a n : Nat) (w : World) (hn : n ≤ 2) (h : a + n ≤ s.size) :
    Calls Try.prog 52 #[.string (s.extract a (a + n))] w fun e w' => e = .returned (.int .i64 (if n = 0 then 0 else if n = 1 then Pl.opAt s.data.toList a else Pl.two s.data.toList a : Nat)) ∧ w = w' := by
  have hz : (s.extract a (a + n)).size = n := by simp [ByteArray.size_extract]; omega
  rw [← numOf_cut s a n h hn]
  exact number_all _ w (by omega)
end Go.Proofs.Ytjelacjggijmfaa
