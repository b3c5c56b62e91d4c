/-
  A region that leaves its order open, by an invariant: each operation is shown once, from whatever stands when it may come up.
  The law's own: a result is grown: the operations, one at a time, whatever the frame.
-/
import Derived.Test.YtjelacjggijmfaaGSB2
import Derived.OrdersHeld
import Derived.RegionTactic
namespace Go.Proofs.Ytjelacjggijmfaa
open Go Go.RowKit

section
variable {P : Program} {ops : Array Oper} {Q : Exit → Act → World → Prop}

/-- An operation waits for earlier ones alone. -/
def EdgesBack (ops : Array Oper) : Bool := (List.range ops.size).all fun j => match ops[j]? with
  | none => true
  | some o => o.after.all fun e => !(Region.binds .any e) || decide (e.on < j)

theorem all_up {l : Array Bool} (hb : EdgesBack ops = true) (hr : Region.ready .any ops l = []) (hl : l.size = ops.size) : ∀ j, j < ops.size → l.getD j false = true := by
  intro j
  induction j using Nat.strongRecOn with
  | ind j ih =>
    intro hj
    by_cases h : l.getD j false = true
    · exact h
    · exfalso
      have hn : j ∉ Region.ready .any ops l := by rw [hr]; simp
      refine hn (mem_ready.2 ⟨?_, ops[j], by simp [hj], fun e he hbe => ih e.on ?_ ?_⟩)
      · have : j < l.size := by omega
        simp [this] at h ⊢
        exact h
      · have h1 := List.all_eq_true.1 hb j (List.mem_range.2 hj)
        simp only [hj, Array.getElem?_eq_getElem] at h1
        have h2 := Array.all_eq_true_iff_forall_mem.1 h1 e he
        simpa [hbe] using h2
      · have h1 := List.all_eq_true.1 hb j (List.mem_range.2 hj)
        simp only [hj, Array.getElem?_eq_getElem] at h1
        have h2 := Array.all_eq_true_iff_forall_mem.1 h1 e he
        have : e.on < j := by simpa [hbe] using h2
        omega

theorem left_set {l : List Bool} : ∀ {i : Nat}, l[i]? = some false → (l.set i true).count false + 1 = l.count false := by
  induction l with
  | nil => intro i h; simp at h
  | cons x xs ih =>
    intro i h
    cases i with
    | zero => simp at h; subst h; simp
    | succ i => simp at h; have := ih h; simp [List.count_cons]; omega

theorem wpAny_inv (I : (Nat → Prop) → Act → World → Prop) (hb : EdgesBack ops = true)
    (hs : ∀ j o, ops[j]? = some o → ∀ (D : Nat → Prop) a w, I D a w → ¬ D j → (∀ e ∈ o.after, Region.binds .any e = true → D e.on) → wpOp P ops Q j (fun a' w' => I (fun k => D k ∨ k = j) a' w') a w)
    (hd : ∀ (D : Nat → Prop) a w, I D a w → (∀ j, j < ops.size → D j) → Q .normal a w) :
    ∀ (fuel : Nat) (l : Array Bool) (a : Act) (w : World), l.size = ops.size → l.toList.count false ≤ fuel → I (fun k => l.getD k false = true) a w → wpAny P .any ops Q fuel l a w := by
  intro fuel
  induction fuel with
  | zero =>
    intro l a w hl hc hI
    have hr : Region.ready .any ops l = [] := by
      rw [List.eq_nil_iff_forall_not_mem]
      intro j hj
      obtain ⟨h0, -⟩ := mem_ready.1 hj
      have h1 : false ∉ l.toList := List.count_eq_zero.1 (by omega)
      apply h1
      have : j < l.size := by
        rcases Nat.lt_or_ge j l.size with h | h
        · exact h
        · simp [Array.getElem?_eq_none h] at h0
      simp [this] at h0
      rw [← h0]
      exact Array.getElem_mem_toList this
    exact ⟨hr, hd _ _ _ hI (all_up hb hr hl)⟩
  | succ fuel ih =>
    intro l a w hl hc hI
    refine ⟨fun hr => hd _ _ _ hI (all_up hb hr hl), fun j hj => ?_⟩
    obtain ⟨h0, o, ho, hall⟩ := mem_ready.1 hj
    have hjl : j < l.size := by
      rcases Nat.lt_or_ge j l.size with h | h
      · exact h
      · simp [Array.getElem?_eq_none h] at h0
    have hjf : l.toList[j]? = some false := by simp [hjl] at h0 ⊢; exact h0
    refine wpOp_mono (fun a' w' h => ih _ a' w' (by simpa using hl) ?_ ?_) (hs j o ho _ a w hI (by simp [hjl] at h0 ⊢; exact h0) hall)
    · have := left_set hjf
      simp only [Array.toList_setIfInBounds]
      omega
    · have e : (fun k => (l.setIfInBounds j true).getD k false = true) = fun k => l.getD k false = true ∨ k = j := by
        funext k
        by_cases hk : k = j
        · subst hk; simp [hjl]
        · rw [getD_set_ne false (Ne.symm hk)]; simp [hk]
      rw [e]
      exact h

/-- **A region that draws, by an invariant**: I of what has come up, the frame and the world. -/
theorem wp_region_inv {id : Nat} {a : Act} {w : World} (I : (Nat → Prop) → Act → World → Prop) (hm : P.follows .mixedOrders = true) (hb : EdgesBack ops = true)
    (h0 : I (fun _ => False) a w.drew)
    (hs : ∀ j o, ops[j]? = some o → ∀ (D : Nat → Prop) a w, I D a w → ¬ D j → (∀ e ∈ o.after, Region.binds .any e = true → D e.on) → wpOp P ops Q j (fun a' w' => I (fun k => D k ∨ k = j) a' w') a w)
    (hd : ∀ (D : Nat → Prop) a w, I D a w → (∀ j, j < ops.size → D j) → Q .normal a w) : (Code.region id ops true).wp P Q a w := by
  refine wp_region_any hm (wpAny_inv I hb hs hd ops.size (Array.replicate ops.size false) a _ (by simp) (by simp) ?_)
  have e : (fun k => (Array.replicate ops.size false).getD k false = true) = fun _ => False := by
    funext k
    rcases Nat.lt_or_ge k ops.size with h' | h'
    · simp [h']
    · simp [h']
  rw [e]
  exact h0

/-! ### The frame: some temporaries hold what T says, the others what they held -/
def putAll (a : Act) (ks : List Nat) (T : Nat → Value) : Act := { a with tmps := ks.foldl (fun t k => t.setIfInBounds k (T k)) a.tmps }
def upd (T : Nat → Value) (k : Nat) (v : Value) : Nat → Value := fun i => if i = k then v else T i
theorem upd_at (T : Nat → Value) (k : Nat) (v : Value) : upd T k v k = v := by unfold upd; rw [if_pos rfl]
theorem upd_ne {T : Nat → Value} {k i : Nat} {v : Value} (h : i ≠ k) : upd T k v i = T i := by unfold upd; rw [if_neg h]
theorem fold_get (T : Nat → Value) (i : Nat) : ∀ (ks : List Nat) (t : Array Value), (ks.foldl (fun t k => t.setIfInBounds k (T k)) t)[i]? = if i ∈ ks ∧ i < t.size then some (T i) else t[i]?
  | [], t => by simp
  | k :: ks, t => by
    rw [List.foldl_cons, fold_get T i ks]
    by_cases hk : i = k
    · subst hk
      by_cases hs : i < t.size
      · by_cases hm : i ∈ ks <;> simp [hs, hm]
      · simp [hs]
    · by_cases hm : i ∈ ks
      · simp [hm, hk, Array.getElem?_setIfInBounds_ne (Ne.symm hk)]
      · simp [hm, hk, Array.getElem?_setIfInBounds_ne (Ne.symm hk)]
section
variable {a : Act} {ks : List Nat} {T : Nat → Value}
theorem putAll_in {k : Nat} (hk : k ∈ ks) (hs : k < a.tmps.size) : (putAll a ks T).eval (.tmp k) = T k := by
  simp only [Act.eval, putAll, Array.getD_eq_getD_getElem?, fold_get, hk, hs, and_self, if_true, Option.getD_some]
theorem putAll_out {k : Nat} (hk : k ∉ ks) : (putAll a ks T).eval (.tmp k) = a.eval (.tmp k) := by
  simp only [Act.eval, putAll, Array.getD_eq_getD_getElem?, fold_get, hk, false_and, if_false]
theorem putAll_func (f : Nat) : (putAll a ks T).eval (.func f) = .func (.func f) #[] #[] := rfl
theorem putAll_put {k : Nat} (hk : k ∈ ks) (v : Value) : (putAll a ks T).put (some k) v = putAll a ks (upd T k v) := by
  simp only [putAll, Act.put, Act.mk.injEq, and_true]
  apply Array.ext_getElem?
  intro i
  have hsz : (ks.foldl (fun t k => t.setIfInBounds k (T k)) a.tmps).size = a.tmps.size := by
    generalize a.tmps = t
    induction ks generalizing t with
    | nil => rfl
    | cons x xs ih =>
      rw [List.foldl_cons]
      by_cases hx : k ∈ xs
      · rw [ih hx]; simp
      · clear ih hk hx
        induction xs generalizing t x with
        | nil => simp
        | cons y ys ih => rw [List.foldl_cons]; have := ih y (t.setIfInBounds x (T x)); rw [this]; simp
  rw [fold_get]
  by_cases hi : i = k
  · subst hi
    rw [upd_at]
    by_cases hs : i < a.tmps.size
    · rw [Array.getElem?_setIfInBounds_self_of_lt (by omega)]; simp [hk, hs]
    · rw [Array.getElem?_eq_none (by simp; omega)]; simp [hs]
  · rw [Array.getElem?_setIfInBounds_ne (Ne.symm hi), fold_get, upd_ne hi]
theorem putAll_self : putAll a ks (fun k => a.tmps.getD k undef) = a := by
  cases a with
  | mk t d =>
    simp only [putAll, Act.mk.injEq, and_true]
    apply Array.ext_getElem?
    intro i
    rw [fold_get]
    split
    · rename_i h; simp [h.2]
    · rfl
end
/-- **The same, the frame told by what the region's temporaries hold.** -/
theorem wp_region_put {id : Nat} {a : Act} {w : World} (ks : List Nat) (J : (Nat → Prop) → (Nat → Value) → World → Prop) (hm : P.follows .mixedOrders = true) (hb : EdgesBack ops = true)
    (h0 : ∀ T, J (fun _ => False) T w.drew)
    (hs : ∀ j o, ops[j]? = some o → ∀ (D : Nat → Prop) T w, J D T w → ¬ D j → (∀ e ∈ o.after, Region.binds .any e = true → D e.on) → wpOp P ops Q j (fun a' w' => ∃ T', a' = putAll a ks T' ∧ J (fun k => D k ∨ k = j) T' w') (putAll a ks T) w)
    (hd : ∀ (D : Nat → Prop) T w, J D T w → (∀ j, j < ops.size → D j) → Q .normal (putAll a ks T) w) : (Code.region id ops true).wp P Q a w := by
  refine wp_region_inv (fun D a' w' => ∃ T', a' = putAll a ks T' ∧ J D T' w') hm hb ⟨_, putAll_self.symm, h0 _⟩ ?_ ?_
  · rintro j o ho D a' w' ⟨T, rfl, hJ⟩ hn hw
    exact hs j o ho D T w' hJ hn hw
  · rintro D a' w' ⟨T, rfl, hJ⟩ hall
    exact hd D T w' hJ hall
section
variable {a : Act} {ks : List Nat} {T : Nat → Value} {w w' : World} {j : Nat} {o : Oper} {J : (Nat → Value) → World → Prop}
theorem waits_for {D : Nat → Prop} (hw : ∀ e ∈ o.after, Region.binds .any e = true → D e.on) (i : Nat) (h : (o.after.any fun e => Region.binds .any e && e.on == i) = true) : D i := by
  obtain ⟨k, hk, h1⟩ := Array.any_eq_true.1 h
  simp only [Bool.and_eq_true, beq_iff_eq] at h1
  have := hw _ (Array.getElem_mem hk) h1.1
  rw [h1.2] at this
  exact this
theorem wpOp_value {k : Nat} {v : Value} (ho : ops[j]? = some o) (hg : o.guard = none) (hd : o.dst = some k) (hk : k ∈ ks) (hr : (execOp (putAll a ks T).eval o).run P w = .ok (.value v) w') (hJ : J (upd T k v) w') : wpOp P ops Q j (fun a' w' => ∃ T', a' = putAll a ks T' ∧ J T' w') (putAll a ks T) w := by
  refine wpOp_step ho (fun K' hK => ?_)
  rw [if_pos (by simp [Region.wanted, hg])]
  unfold Oper.wp
  rw [hr]
  show K' ((putAll a ks T).put o.dst v) w'
  rw [hd]
  exact hK _ _ ⟨_, putAll_put hk v, hJ⟩
theorem wpOp_skip (ho : ops[j]? = some o) (hg : o.guard = none) (hd : o.dst = none) (hr : (execOp (putAll a ks T).eval o).run P w = .ok .skip w') (hJ : J T w') : wpOp P ops Q j (fun a' w' => ∃ T', a' = putAll a ks T' ∧ J T' w') (putAll a ks T) w := by
  refine wpOp_step ho (fun K' hK => ?_)
  rw [if_pos (by simp [Region.wanted, hg])]
  unfold Oper.wp
  rw [hr]
  show K' ((putAll a ks T).put o.dst undef) w'
  rw [hd]
  exact hK _ _ ⟨_, rfl, hJ⟩
theorem wpOp_enter {k f : Nat} {args : Array Value} (ho : ops[j]? = some o) (hg : o.guard = none) (hd : o.dst = some k) (hk : k ∈ ks) (hr : (execOp (putAll a ks T).eval o).run P w = .ok (.enter f args) w) (hC : Calls P f args w fun e w' => ∃ v, e = .returned v ∧ J (upd T k v) w') : wpOp P ops Q j (fun a' w' => ∃ T', a' = putAll a ks T' ∧ J T' w') (putAll a ks T) w := by
  refine wpOp_step ho (fun K' hK => ?_)
  rw [if_pos (by simp [Region.wanted, hg])]
  unfold Oper.wp
  rw [hr]
  refine Calls.mono hC ?_
  rintro e w' ⟨v, rfl, hJ⟩
  show K' ((putAll a ks T).put o.dst v) w'
  rw [hd]
  exact hK _ _ ⟨_, putAll_put hk v, hJ⟩
end
end
end Go.Proofs.Ytjelacjggijmfaa
namespace Go.Proofs.Ytjelacjggijmfaa
open Go.RowKit

section
variable {ev : Operand → Value} {o : Oper} {w : World} {N n k c : Nat} {b : Nat} {v u : Value} {s : ByteArray}
theorem ev_field (x : Operand) (i : Nat) (hi : i < 2) (ho : o.op = Op.fieldAddr 41 x i) (hx : ev x = .pointer (some ⟨N, 0, none⟩)) : (execOp ev o).run Try.prog w = .ok (.value (.pointer (some ⟨N, i, none⟩))) w := by
  match i, hi with
  | 0, _ => simp [execOp, ho, hx]
            go_simp
  | 1, _ => simp [execOp, ho, hx]
            go_simp
theorem ev_load_s (x : Operand) (t : TypeId) (ht : t = 39 ∨ t = 30) (ho : o.op = Op.load t x) (hx : ev x = .pointer (some ⟨N, k, none⟩)) (hc : w.cell? ⟨N, k, none⟩ = some v) : (execOp ev o).run Try.prog w = .ok (.value v) w := by
  rcases ht with rfl | rfl
  · simp [execOp, ho, hx]
    go_simp
  · simp [execOp, ho, hx]
    go_simp
theorem ev_load_f (x : Operand) (ho : o.op = Op.load 61 x) (hx : ev x = .pointer (some ⟨N, 0, none⟩)) (v0 v1 v2 : Value) (h0 : w.cell? ⟨N, 0, none⟩ = some v0) (h1 : w.cell? ⟨N, 1, none⟩ = some v1) (h2 : w.cell? ⟨N, 2, none⟩ = some v2) : (execOp ev o).run Try.prog w = .ok (.value (.agg #[v0, v1, v2])) w := by
  simp [execOp, ho, hx]
  go_simp
theorem ev_move (x : Operand) (ho : o.op = Op.move x) : (execOp ev o).run Try.prog w = .ok (.value (ev x)) w := by
  simp [execOp, ho]
theorem ev_call (x : Operand) (ho : o.op = Op.call { callee := .value (.func 31), args := #[x], argTypes := #[3] }) (hf : ev (.func 31) = .func (.func 31) #[] #[]) : (execOp ev o).run Try.prog w = .ok (.enter 31 #[ev x]) w := by
  simp [execOp, ho]
  go_simp
theorem ev_slice_s1 (x : Operand) (ho : o.op = Op.buildSlice 39 1 #[(0, x)]) (hx : ev x = .string s) : (execOp ev o).run Try.prog w = .ok (.value (.slice (some ⟨w.heap.size, 0, none⟩) 1 1)) (w.alloc (.cells #[.string s] 9)) := by
  simp [execOp, ho, hx]
  go_simp
theorem ev_slice_s2 (x y : Operand) (ho : o.op = Op.buildSlice 39 2 #[(0, x), (1, y)]) (hx : ev x = .string s) (hy : ev y = .string s) : (execOp ev o).run Try.prog w = .ok (.value (.slice (some ⟨w.heap.size, 0, none⟩) 2 2)) (w.alloc (.cells #[.string s, .string s] 9)) := by
  simp [execOp, ho, hx, hy]
  go_simp
theorem ev_slice_s3 (x y z : Operand) (ho : o.op = Op.buildSlice 39 3 #[(0, x), (1, y), (2, z)]) (hx : ev x = .string s) (hy : ev y = .string s) (hz : ev z = .string s) : (execOp ev o).run Try.prog w = .ok (.value (.slice (some ⟨w.heap.size, 0, none⟩) 3 3)) (w.alloc (.cells #[.string s, .string s, .string s] 9)) := by
  simp [execOp, ho, hx, hy, hz]
  go_simp
theorem ev_slice_f1 (x : Operand) (p q : ByteArray) (i : Int) (ho : o.op = Op.buildSlice 30 1 #[(0, x)]) (hx : ev x = .agg #[.string p, .string q, .int .i64 i]) : (execOp ev o).run Try.prog w = .ok (.value (.slice (some ⟨w.heap.size, 0, none⟩) 1 1)) (w.alloc (.cells #[.string p, .string q, .int .i64 i] 61)) := by
  simp [execOp, ho, hx]
  go_simp
theorem ev_slice_f2 (x y : Operand) (p q : ByteArray) (i : Int) (ho : o.op = Op.buildSlice 30 2 #[(0, x), (1, y)]) (hx : ev x = .agg #[.string p, .string q, .int .i64 i]) (hy : ev y = .agg #[.string p, .string q, .int .i64 i]) : (execOp ev o).run Try.prog w = .ok (.value (.slice (some ⟨w.heap.size, 0, none⟩) 2 2)) (w.alloc (.cells #[.string p, .string q, .int .i64 i, .string p, .string q, .int .i64 i] 61)) := by
  simp [execOp, ho, hx, hy]
  go_simp
theorem ev_slice_f3 (x y z : Operand) (p q : ByteArray) (i : Int) (ho : o.op = Op.buildSlice 30 3 #[(0, x), (1, y), (2, z)]) (hx : ev x = .agg #[.string p, .string q, .int .i64 i]) (hy : ev y = .agg #[.string p, .string q, .int .i64 i]) (hz : ev z = .agg #[.string p, .string q, .int .i64 i]) : (execOp ev o).run Try.prog w = .ok (.value (.slice (some ⟨w.heap.size, 0, none⟩) 3 3)) (w.alloc (.cells #[.string p, .string q, .int .i64 i, .string p, .string q, .int .i64 i, .string p, .string q, .int .i64 i] 61)) := by
  simp [execOp, ho, hx, hy, hz]
  go_simp
theorem ev_alloc (ho : o.op = Op.alloc 41) : (execOp ev o).run Try.prog w = .ok (.value (.pointer (some ⟨w.heap.size, 0, none⟩))) (w.alloc (.cells #[.slice none 0 0, .slice none 0 0, .int .i64 0, .int .i64 0] 41)) := by
  simp [execOp, ho]
  go_simp
theorem ev_build (x y : Operand) (ho : o.op = Op.build 41 #[(0, x), (1, y)]) (a1 a2 : Option Addr) (n1 c1 n2 c2 : Nat) (hx : ev x = .slice a1 n1 c1) (hy : ev y = .slice a2 n2 c2) : (execOp ev o).run Try.prog w = .ok (.value (.agg #[.slice a1 n1 c1, .slice a2 n2 c2, .int .i64 0, .int .i64 0])) w := by
  simp [execOp, ho, hx, hy]
  go_simp
theorem ev_store (x y : Operand) (ho : o.op = Op.store 41 x y) (hx : ev x = .pointer (some ⟨N, 0, none⟩)) (v0 v1 v2 v3 : Value) (a1 a2 : Option Addr) (n1 d1 n2 d2 : Nat) (hy : ev y = .agg #[.slice a1 n1 d1, .slice a2 n2 d2, .int .i64 0, .int .i64 0]) (hr : Row w N 41 [v0, v1, v2, v3]) : (execOp ev o).run Try.prog w = .ok .skip ((((w.setCell ⟨N, 0, none⟩ (.slice a1 n1 d1)).setCell ⟨N, 1, none⟩ (.slice a2 n2 d2)).setCell ⟨N, 2, none⟩ (.int .i64 0)).setCell ⟨N, 3, none⟩ (.int .i64 0)) := by
  have c0 : w.cell? ⟨N, 0, none⟩ = some v0 := hr.cell 0 (by simp)
  have c1 : w.cell? ⟨N, 1, none⟩ = some v1 := hr.cell 1 (by simp)
  have c2 : w.cell? ⟨N, 2, none⟩ = some v2 := hr.cell 2 (by simp)
  have c3 : w.cell? ⟨N, 3, none⟩ = some v3 := hr.cell 3 (by simp)
  have z0 := hr.frozen 0
  have z1 := hr.frozen 1
  have z2 := hr.frozen 2
  have z3 := hr.frozen 3
  simp [execOp, ho, hx, hy]
  go_simp
end
end Go.Proofs.Ytjelacjggijmfaa
