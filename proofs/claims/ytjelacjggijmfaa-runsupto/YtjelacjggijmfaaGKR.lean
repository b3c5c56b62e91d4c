/-
  The law's own: a result is grown by some marks: each operation of that statement, whatever has come up before it.
  The law's own: what is carried through the statements in which a result is grown.
  The law's own: what was grown is kept in the book.
-/
import Derived.Test.YtjelacjggijmfaaGKP3
import Derived.Test.YtjelacjggijmfaaGRI
namespace Go.Proofs.Ytjelacjggijmfaa
open Go.RowKit

/-- From one world to a later one: what is carried along. -/
structure Mv (X : World → Prop) (H n : Nat) (W Z : World) : Prop where
  x : X W → X Z
  size : W.heap.size ≤ Z.heap.size
  rs : ∀ g vs, Row W g 9 vs → (∀ j u, vs[j]? = some u → u = mkS n j) → Row Z g 9 vs
  rf : ∀ g vs, Row W g 61 vs → (∀ j u, vs[j]? = some u → u = mkF n j) → Row Z g 61 vs
  rr : ∀ g vs, Row W g 41 vs → Row Z g 41 vs
  os : ∀ v k, W.ownsRow H 9 1 v k (marksS n k) → Z.ownsRow H 9 1 v k (marksS n k)
  of : ∀ v k, W.ownsRow H 61 3 v k (marksF n k) → Z.ownsRow H 61 3 v k (marksF n k)
/-- What is carried through the statement. -/
structure Carried (X : World → Prop) (H L n N : Nat) (vc : Value) (nc : Nat) (vr : Value) (nf : Nat) : Prop where
  later : ∀ W Z, X W → Below W.heap.size W Z → X Z
  ups : ∀ W Z, X W → MkUp H 9 (mkS n) W Z → X Z
  upf : ∀ W Z, X W → MkUp H 61 (mkF n) W Z → X Z
  box : ∀ W Z b vs, X W → L ≤ b → Row W b 41 vs → Turned (fun k => k = b) W Z → X Z
  rbox : ∀ W, X W → ∃ x y, Row W N 41 [vc, vr, x, y]
  fbox : ∀ W, X W → Row W (N + 1) 61 [.string ⟨kept.toArray⟩, .string ⟨#[]⟩, .int .i64 n]
  cm : ∀ W, X W → W.ownsRow H 9 1 vc nc (marksS n nc)
  fi : ∀ W, X W → W.ownsRow H 61 3 vr nf (marksF n nf)
  hH : ∀ W, X W → H ≤ W.heap.size
section
variable {X : World → Prop} {H L n N m : Nat} {vc vr : Value} {nc nf : Nat} {W Z : World}
theorem Mv.later (c : Carried X H L n N vc nc vr nf) (hb : Below W.heap.size W Z) : Mv X H n W Z := ⟨fun h => c.later W Z h hb, hb.size, fun _ _ h _ => h.later hb, fun _ _ h _ => h.later hb, fun _ _ h => h.later hb, fun _ _ h => own_same h (fun k hk => hb.block k (h.lt k hk).2), fun _ _ h => own_same h (fun k hk => hb.block k (h.lt k hk).2)⟩
theorem Mv.ups (c : Carried X H L n N vc nc vr nf) (hu : MkUp H 9 (mkS n) W Z) : Mv X H n W Z := ⟨fun h => c.ups W Z h hu, hu.size, fun _ _ h hv => hu.marks h hv, fun _ _ h _ => hu.row h (by decide), fun _ _ h => hu.row h (by decide), fun _ _ h => hu.own h, fun _ _ h => hu.other h (by decide)⟩
theorem Mv.upf (c : Carried X H L n N vc nc vr nf) (hu : MkUp H 61 (mkF n) W Z) : Mv X H n W Z := ⟨fun h => c.upf W Z h hu, hu.size, fun _ _ h _ => hu.row h (by decide), fun _ _ h hv => hu.marks h hv, fun _ _ h => hu.row h (by decide), fun _ _ h => hu.other h (by decide), fun _ _ h => hu.own h⟩
theorem marksS_mk (n m : Nat) : ∀ j u, (marksS n m)[j]? = some u → u = mkS n j := fun j u h => by
  unfold marksS at h
  obtain ⟨hj, rfl⟩ := List.getElem?_eq_some_iff.1 h
  simp
theorem marksF_mk (n m : Nat) : ∀ j u, (marksF n m)[j]? = some u → u = mkF n j := fun j u h => by
  unfold marksF at h
  obtain ⟨hj, rfl⟩ := List.getElem?_eq_some_iff.1 h
  simp
/-- What an operation of the kind c leaves. -/
def Lim (H L n N m : Nat) (vc : Value) (nc : Nat) (vr : Value) (nf : Nat) (c : Nat) (x : Value) (W : World) : Prop :=
  match c with
  | 0 => x = .pointer (some ⟨N, 0, none⟩)
  | 1 => x = vc
  | 2 => x = .int .i64 n
  | 3 => x = .string ⟨(markB n).toArray⟩
  | 4 => ∃ g, x = .slice (some ⟨g, 0, none⟩) m m ∧ Row W g 9 (marksS n m)
  | 5 => W.ownsRow H 9 1 x (nc + m) (marksS n (nc + m))
  | 6 => x = .pointer (some ⟨N, 1, none⟩)
  | 7 => x = vr
  | 8 => x = .agg #[.string ⟨kept.toArray⟩, .string ⟨#[]⟩, .int .i64 n]
  | 9 => ∃ g, x = .slice (some ⟨g, 0, none⟩) m m ∧ Row W g 61 (marksF n m)
  | 10 => W.ownsRow H 61 3 x (nf + m) (marksF n (nf + m))
  | 11 => ∃ v1 f1, x = .agg #[v1, f1, .int .i64 0, .int .i64 0] ∧ W.ownsRow H 9 1 v1 (nc + m) (marksS n (nc + m)) ∧ W.ownsRow H 61 3 f1 (nf + m) (marksF n (nf + m))
  | 12 => ∃ b, x = .pointer (some ⟨b, 0, none⟩) ∧ L ≤ b ∧ Row W b 41 [.slice none 0 0, .slice none 0 0, .int .i64 0, .int .i64 0]
  | _ => False
theorem Lim.mv {c : Nat} {x : Value} (h : Lim H L n N m vc nc vr nf c x W) (hm : Mv X H n W Z) : Lim H L n N m vc nc vr nf c x Z := by
  unfold Lim at *
  split at h
  · exact h
  · exact h
  · exact h
  · exact h
  · obtain ⟨g, h1, h2⟩ := h
    exact ⟨g, h1, hm.rs _ _ h2 (marksS_mk n m)⟩
  · exact hm.os _ _ h
  · exact h
  · exact h
  · exact h
  · obtain ⟨g, h1, h2⟩ := h
    exact ⟨g, h1, hm.rf _ _ h2 (marksF_mk n m)⟩
  · exact hm.of _ _ h
  · obtain ⟨v1, f1, h1, h2, h3⟩ := h
    exact ⟨v1, f1, h1, hm.os _ _ h2, hm.of _ _ h3⟩
  · obtain ⟨b, h1, h2, h3⟩ := h
    exact ⟨b, h1, h2, hm.rr _ _ h3⟩
  · exact h.elim
end
/-- While the statement is carried out, ahead of its store. -/
structure Gr (X : World → Prop) (H L n N m : Nat) (vc : Value) (nc : Nat) (vr : Value) (nf : Nat) (cd tm : List Nat) (D : Nat → Prop) (T : Nat → Value) (W : World) : Prop where
  x : X W
  sz : L ≤ W.heap.size
  lim : ∀ i c k, cd[i]? = some c → tm[i]? = some k → D i → Lim H L n N m vc nc vr nf c (T k) W
/-- The store has been carried out. -/
def GrEnd (X : World → Prop) (H L n m : Nat) (nc nf : Nat) (kb : Nat) (T : Nat → Value) (W : World) : Prop :=
  ∃ b v1 f1, T kb = .pointer (some ⟨b, 0, none⟩) ∧ L ≤ b ∧ X W ∧ Row W b 41 [v1, f1, .int .i64 0, .int .i64 0] ∧ W.ownsRow H 9 1 v1 (nc + m) (marksS n (nc + m)) ∧ W.ownsRow H 61 3 f1 (nf + m) (marksF n (nf + m))
/-- What holds all along: z is the store's number. -/
def GrJ (X : World → Prop) (H L n N m : Nat) (vc : Value) (nc : Nat) (vr : Value) (nf : Nat) (cd tm : List Nat) (z kb : Nat) (D : Nat → Prop) (T : Nat → Value) (W : World) : Prop :=
  (¬ D z ∧ Gr X H L n N m vc nc vr nf cd tm D T W) ∨ ((∀ j, j ≤ z → D j) ∧ GrEnd X H L n m nc nf kb T W)
section
variable {X : World → Prop} {H L n N m : Nat} {vc vr : Value} {nc nf : Nat} {cd tm : List Nat} {D : Nat → Prop} {T : Nat → Value} {W Z : World} {j k c z kb : Nat} {x : Value}
theorem Gr.put (h : Gr X H L n N m vc nc vr nf cd tm D T W) (hm : Mv X H n W Z) (hj : cd[j]? = some c) (hk : tm[j]? = some k) (hnd : tm.Nodup) (hl : Lim H L n N m vc nc vr nf c x Z) : Gr X H L n N m vc nc vr nf cd tm (fun i => D i ∨ i = j) (upd T k x) Z := by
  refine ⟨hm.x h.x, Nat.le_trans h.sz hm.size, fun i c' k' hc' hk' hD => ?_⟩
  by_cases hij : i = j
  · subst hij
    rw [hj] at hc'
    rw [hk] at hk'
    cases hc'
    cases hk'
    rw [upd_at]
    exact hl
  · have hne : k' ≠ k := fun e => hij (by
      subst e
      obtain ⟨hi, e1⟩ := List.getElem?_eq_some_iff.1 hk'
      obtain ⟨hj', e2⟩ := List.getElem?_eq_some_iff.1 hk
      exact (List.getElem_inj hnd).1 (e1.trans e2.symm))
    rw [upd_ne hne]
    exact (h.lim i c' k' hc' hk' (hD.resolve_right hij)).mv hm
theorem GrJ.step (hn : ¬ D z) (hjz : j ≠ z) (h : Gr X H L n N m vc nc vr nf cd tm D T W) (hm : Mv X H n W Z) (hj : cd[j]? = some c) (hk : tm[j]? = some k) (hnd : tm.Nodup) (hl : Lim H L n N m vc nc vr nf c x Z) : GrJ X H L n N m vc nc vr nf cd tm z kb (fun i => D i ∨ i = j) (upd T k x) Z :=
  .inl ⟨fun e => e.elim hn (fun e => hjz e.symm), h.put hm hj hk hnd hl⟩
theorem Mv.refl (X : World → Prop) (H n : Nat) (W : World) : Mv X H n W W := ⟨id, Nat.le_refl _, fun _ _ h _ => h, fun _ _ h _ => h, fun _ _ h => h, fun _ _ h => h, fun _ _ h => h⟩
end
/-! ### The operations -/
section
variable {X : World → Prop} {H L n N m : Nat} {vc vr : Value} {nc nf : Nat} {cd tm ks : List Nat} {D : Nat → Prop} {T : Nat → Value} {W : World} {j k z kb : Nat} {ops : Array Oper} {Q : Exit → Act → World → Prop} {a : Act} {o : Oper}
/-- What all of them are handed: the frame, and which operation it is. -/
structure Here (ops : Array Oper) (o : Oper) (a : Act) (ks tm cd : List Nat) (j c k z : Nat) : Prop where
  ho : ops[j]? = some o
  hg : o.guard = none
  hd : o.dst = some k
  hk : k ∈ ks
  hc : cd[j]? = some c
  ht : tm[j]? = some k
  hnd : tm.Nodup
  hz : j ≠ z
theorem gr_field {f : Nat} (hH : Here ops o a ks tm cd j (if f = 0 then 0 else 6) k z) (hf : f < 2) (hop : o.op = Op.fieldAddr 41 (.tmp 3) f) (h3 : 3 ∉ ks) (ha : a.eval (.tmp 3) = .pointer (some ⟨N, 0, none⟩)) (hn : ¬ D z) (h : Gr X H L n N m vc nc vr nf cd tm D T W) :
    wpOp Try.prog ops Q j (fun a' w' => ∃ T', a' = putAll a ks T' ∧ GrJ X H L n N m vc nc vr nf cd tm z kb (fun k => D k ∨ k = j) T' w') (putAll a ks T) W := by
  refine wpOp_value hH.ho hH.hg hH.hd hH.hk (ev_field (.tmp 3) f hf hop (by rw [putAll_out h3, ha])) (GrJ.step hn hH.hz h (Mv.refl _ _ _ _) hH.hc hH.ht hH.hnd ?_)
  match f, hf with
  | 0, _ => rfl
  | 1, _ => rfl
theorem gr_num (hH : Here ops o a ks tm cd j 2 k z) (hop : o.op = Op.move (.tmp 4)) (h4 : 4 ∉ ks) (ha : a.eval (.tmp 4) = .int .i64 n) (hn : ¬ D z) (h : Gr X H L n N m vc nc vr nf cd tm D T W) :
    wpOp Try.prog ops Q j (fun a' w' => ∃ T', a' = putAll a ks T' ∧ GrJ X H L n N m vc nc vr nf cd tm z kb (fun k => D k ∨ k = j) T' w') (putAll a ks T) W := by
  refine wpOp_value hH.ho hH.hg hH.hd hH.hk (ev_move (.tmp 4) hop) (GrJ.step hn hH.hz h (Mv.refl _ _ _ _) hH.hc hH.ht hH.hnd ?_)
  rw [putAll_out h4, ha]
  rfl
theorem gr_load_c (c : Carried X H L n N vc nc vr nf) {i q : Nat} (hH : Here ops o a ks tm cd j 1 k z) (hop : o.op = Op.load 39 (.tmp q)) (hq : q ∈ ks) (hqs : q < a.tmps.size) (hci : cd[i]? = some 0) (hti : tm[i]? = some q) (hDi : D i) (hn : ¬ D z) (h : Gr X H L n N m vc nc vr nf cd tm D T W) :
    wpOp Try.prog ops Q j (fun a' w' => ∃ T', a' = putAll a ks T' ∧ GrJ X H L n N m vc nc vr nf cd tm z kb (fun k => D k ∨ k = j) T' w') (putAll a ks T) W := by
  have h0 : T q = .pointer (some ⟨N, 0, none⟩) := h.lim i 0 q hci hti hDi
  obtain ⟨x, y, hr⟩ := c.rbox W h.x
  exact wpOp_value hH.ho hH.hg hH.hd hH.hk (ev_load_s (.tmp q) _ (.inl rfl) hop (by rw [putAll_in hq hqs, h0]) (hr.cell? (i := 0) rfl)) (GrJ.step hn hH.hz h (Mv.refl _ _ _ _) hH.hc hH.ht hH.hnd rfl)
theorem gr_load_r (c : Carried X H L n N vc nc vr nf) {i q : Nat} (hH : Here ops o a ks tm cd j 7 k z) (hop : o.op = Op.load 30 (.tmp q)) (hq : q ∈ ks) (hqs : q < a.tmps.size) (hci : cd[i]? = some 6) (hti : tm[i]? = some q) (hDi : D i) (hn : ¬ D z) (h : Gr X H L n N m vc nc vr nf cd tm D T W) :
    wpOp Try.prog ops Q j (fun a' w' => ∃ T', a' = putAll a ks T' ∧ GrJ X H L n N m vc nc vr nf cd tm z kb (fun k => D k ∨ k = j) T' w') (putAll a ks T) W := by
  have h0 : T q = .pointer (some ⟨N, 1, none⟩) := h.lim i 6 q hci hti hDi
  obtain ⟨x, y, hr⟩ := c.rbox W h.x
  exact wpOp_value hH.ho hH.hg hH.hd hH.hk (ev_load_s (.tmp q) _ (.inr rfl) hop (by rw [putAll_in hq hqs, h0]) (hr.cell? (i := 1) rfl)) (GrJ.step hn hH.hz h (Mv.refl _ _ _ _) hH.hc hH.ht hH.hnd rfl)
theorem gr_load_f (c : Carried X H L n N vc nc vr nf) (hH : Here ops o a ks tm cd j 8 k z) (hop : o.op = Op.load 61 (.tmp 5)) (h5 : 5 ∉ ks) (ha : a.eval (.tmp 5) = .pointer (some ⟨N + 1, 0, none⟩)) (hn : ¬ D z) (h : Gr X H L n N m vc nc vr nf cd tm D T W) :
    wpOp Try.prog ops Q j (fun a' w' => ∃ T', a' = putAll a ks T' ∧ GrJ X H L n N m vc nc vr nf cd tm z kb (fun k => D k ∨ k = j) T' w') (putAll a ks T) W := by
  have hr := c.fbox W h.x
  exact wpOp_value hH.ho hH.hg hH.hd hH.hk (ev_load_f (.tmp 5) hop (by rw [putAll_out h5, ha]) _ _ _ (hr.cell? (i := 0) rfl) (hr.cell? (i := 1) rfl) (hr.cell? (i := 2) rfl)) (GrJ.step hn hH.hz h (Mv.refl _ _ _ _) hH.hc hH.ht hH.hnd rfl)
theorem gr_mark (c : Carried X H L n N vc nc vr nf) (hn2 : n < 2) {i q : Nat} (hH : Here ops o a ks tm cd j 3 k z) (hop : o.op = Op.call { callee := .value (.func 31), args := #[.tmp q], argTypes := #[3] }) (hq : q ∈ ks) (hqs : q < a.tmps.size) (hci : cd[i]? = some 2) (hti : tm[i]? = some q) (hDi : D i) (hn : ¬ D z) (h : Gr X H L n N m vc nc vr nf cd tm D T W) :
    wpOp Try.prog ops Q j (fun a' w' => ∃ T', a' = putAll a ks T' ∧ GrJ X H L n N m vc nc vr nf cd tm z kb (fun k => D k ∨ k = j) T' w') (putAll a ks T) W := by
  have h0 : T q = .int .i64 n := h.lim i 2 q hci hti hDi
  have hr := ev_call (w := W) (.tmp q) hop (putAll_func (a := a) (ks := ks) (T := T) 31)
  rw [putAll_in hq hqs, h0] at hr
  refine wpOp_enter hH.ho hH.hg hH.hd hH.hk hr ((mark_any n (by omega) W).mono ?_)
  rintro e w' ⟨rfl, hb⟩
  exact ⟨_, rfl, GrJ.step hn hH.hz h (Mv.later c hb) hH.hc hH.ht hH.hnd rfl⟩
theorem gr_alloc (c : Carried X H L n N vc nc vr nf) (hH : Here ops o a ks tm cd j 12 k z) (hop : o.op = Op.alloc 41) (hn : ¬ D z) (h : Gr X H L n N m vc nc vr nf cd tm D T W) :
    wpOp Try.prog ops Q j (fun a' w' => ∃ T', a' = putAll a ks T' ∧ GrJ X H L n N m vc nc vr nf cd tm z kb (fun k => D k ∨ k = j) T' w') (putAll a ks T) W :=
  wpOp_value hH.ho hH.hg hH.hd hH.hk (ev_alloc hop) (GrJ.step hn hH.hz h (Mv.later c ((Below.refl _ W).alloc (Nat.le_refl _) _)) hH.hc hH.ht hH.hnd ⟨_, rfl, h.sz, Row.new W _ [.slice none 0 0, .slice none 0 0, .int .i64 0, .int .i64 0]⟩)
theorem gr_slice_s (c : Carried X H L n N vc nc vr nf) (hH : Here ops o a ks tm cd j 4 k z) (hr : (execOp (putAll a ks T).eval o).run Try.prog W = .ok (.value (.slice (some ⟨W.heap.size, 0, none⟩) m m)) (W.alloc (.cells (marksS n m).toArray 9))) (hn : ¬ D z) (h : Gr X H L n N m vc nc vr nf cd tm D T W) :
    wpOp Try.prog ops Q j (fun a' w' => ∃ T', a' = putAll a ks T' ∧ GrJ X H L n N m vc nc vr nf cd tm z kb (fun k => D k ∨ k = j) T' w') (putAll a ks T) W :=
  wpOp_value hH.ho hH.hg hH.hd hH.hk hr (GrJ.step hn hH.hz h (Mv.later c ((Below.refl _ W).alloc (Nat.le_refl _) _)) hH.hc hH.ht hH.hnd ⟨_, rfl, Row.new W _ _⟩)
theorem gr_slice_f (c : Carried X H L n N vc nc vr nf) (hH : Here ops o a ks tm cd j 9 k z) (hr : (execOp (putAll a ks T).eval o).run Try.prog W = .ok (.value (.slice (some ⟨W.heap.size, 0, none⟩) m m)) (W.alloc (.cells (marksF n m).toArray 61))) (hn : ¬ D z) (h : Gr X H L n N m vc nc vr nf cd tm D T W) :
    wpOp Try.prog ops Q j (fun a' w' => ∃ T', a' = putAll a ks T' ∧ GrJ X H L n N m vc nc vr nf cd tm z kb (fun k => D k ∨ k = j) T' w') (putAll a ks T) W :=
  wpOp_value hH.ho hH.hg hH.hd hH.hk hr (GrJ.step hn hH.hz h (Mv.later c ((Below.refl _ W).alloc (Nat.le_refl _) _)) hH.hc hH.ht hH.hnd ⟨_, rfl, Row.new W _ _⟩)
theorem gr_slice_s1 (c : Carried X H L n N vc nc vr nf) {i0 q0 : Nat} (hH : Here ops o a ks tm cd j 4 k z) (hop : o.op = Op.buildSlice 39 1 #[(0, .tmp q0)]) (hq0 : q0 ∈ ks) (hs0 : q0 < a.tmps.size) (hc0 : cd[i0]? = some 3) (ht0 : tm[i0]? = some q0) (hD0 : D i0) (hn : ¬ D z) (h : Gr X H L n N 1 vc nc vr nf cd tm D T W) :
    wpOp Try.prog ops Q j (fun a' w' => ∃ T', a' = putAll a ks T' ∧ GrJ X H L n N 1 vc nc vr nf cd tm z kb (fun k => D k ∨ k = j) T' w') (putAll a ks T) W := by
  have e0 : T q0 = Value.string ⟨(markB n).toArray⟩ := h.lim i0 3 q0 hc0 ht0 hD0
  exact gr_slice_s c hH (ev_slice_s1 (.tmp q0) hop (by rw [putAll_in hq0 hs0, e0])) hn h
theorem gr_slice_s2 (c : Carried X H L n N vc nc vr nf) {i0 q0 i1 q1 : Nat} (hH : Here ops o a ks tm cd j 4 k z) (hop : o.op = Op.buildSlice 39 2 #[(0, .tmp q0), (1, .tmp q1)]) (hq0 : q0 ∈ ks) (hs0 : q0 < a.tmps.size) (hc0 : cd[i0]? = some 3) (ht0 : tm[i0]? = some q0) (hD0 : D i0) (hq1 : q1 ∈ ks) (hs1 : q1 < a.tmps.size) (hc1 : cd[i1]? = some 3) (ht1 : tm[i1]? = some q1) (hD1 : D i1) (hn : ¬ D z) (h : Gr X H L n N 2 vc nc vr nf cd tm D T W) :
    wpOp Try.prog ops Q j (fun a' w' => ∃ T', a' = putAll a ks T' ∧ GrJ X H L n N 2 vc nc vr nf cd tm z kb (fun k => D k ∨ k = j) T' w') (putAll a ks T) W := by
  have e0 : T q0 = Value.string ⟨(markB n).toArray⟩ := h.lim i0 3 q0 hc0 ht0 hD0
  have e1 : T q1 = Value.string ⟨(markB n).toArray⟩ := h.lim i1 3 q1 hc1 ht1 hD1
  exact gr_slice_s c hH (ev_slice_s2 (.tmp q0) (.tmp q1) hop (by rw [putAll_in hq0 hs0, e0]) (by rw [putAll_in hq1 hs1, e1])) hn h
theorem gr_slice_s3 (c : Carried X H L n N vc nc vr nf) {i0 q0 i1 q1 i2 q2 : Nat} (hH : Here ops o a ks tm cd j 4 k z) (hop : o.op = Op.buildSlice 39 3 #[(0, .tmp q0), (1, .tmp q1), (2, .tmp q2)]) (hq0 : q0 ∈ ks) (hs0 : q0 < a.tmps.size) (hc0 : cd[i0]? = some 3) (ht0 : tm[i0]? = some q0) (hD0 : D i0) (hq1 : q1 ∈ ks) (hs1 : q1 < a.tmps.size) (hc1 : cd[i1]? = some 3) (ht1 : tm[i1]? = some q1) (hD1 : D i1) (hq2 : q2 ∈ ks) (hs2 : q2 < a.tmps.size) (hc2 : cd[i2]? = some 3) (ht2 : tm[i2]? = some q2) (hD2 : D i2) (hn : ¬ D z) (h : Gr X H L n N 3 vc nc vr nf cd tm D T W) :
    wpOp Try.prog ops Q j (fun a' w' => ∃ T', a' = putAll a ks T' ∧ GrJ X H L n N 3 vc nc vr nf cd tm z kb (fun k => D k ∨ k = j) T' w') (putAll a ks T) W := by
  have e0 : T q0 = Value.string ⟨(markB n).toArray⟩ := h.lim i0 3 q0 hc0 ht0 hD0
  have e1 : T q1 = Value.string ⟨(markB n).toArray⟩ := h.lim i1 3 q1 hc1 ht1 hD1
  have e2 : T q2 = Value.string ⟨(markB n).toArray⟩ := h.lim i2 3 q2 hc2 ht2 hD2
  exact gr_slice_s c hH (ev_slice_s3 (.tmp q0) (.tmp q1) (.tmp q2) hop (by rw [putAll_in hq0 hs0, e0]) (by rw [putAll_in hq1 hs1, e1]) (by rw [putAll_in hq2 hs2, e2])) hn h
theorem gr_slice_f1 (c : Carried X H L n N vc nc vr nf) {i0 q0 : Nat} (hH : Here ops o a ks tm cd j 9 k z) (hop : o.op = Op.buildSlice 30 1 #[(0, .tmp q0)]) (hq0 : q0 ∈ ks) (hs0 : q0 < a.tmps.size) (hc0 : cd[i0]? = some 8) (ht0 : tm[i0]? = some q0) (hD0 : D i0) (hn : ¬ D z) (h : Gr X H L n N 1 vc nc vr nf cd tm D T W) :
    wpOp Try.prog ops Q j (fun a' w' => ∃ T', a' = putAll a ks T' ∧ GrJ X H L n N 1 vc nc vr nf cd tm z kb (fun k => D k ∨ k = j) T' w') (putAll a ks T) W := by
  have e0 : T q0 = Value.agg #[.string ⟨kept.toArray⟩, .string ⟨#[]⟩, .int .i64 n] := h.lim i0 8 q0 hc0 ht0 hD0
  exact gr_slice_f c hH (ev_slice_f1 (.tmp q0) _ _ _ hop (by rw [putAll_in hq0 hs0, e0])) hn h
theorem gr_slice_f2 (c : Carried X H L n N vc nc vr nf) {i0 q0 i1 q1 : Nat} (hH : Here ops o a ks tm cd j 9 k z) (hop : o.op = Op.buildSlice 30 2 #[(0, .tmp q0), (1, .tmp q1)]) (hq0 : q0 ∈ ks) (hs0 : q0 < a.tmps.size) (hc0 : cd[i0]? = some 8) (ht0 : tm[i0]? = some q0) (hD0 : D i0) (hq1 : q1 ∈ ks) (hs1 : q1 < a.tmps.size) (hc1 : cd[i1]? = some 8) (ht1 : tm[i1]? = some q1) (hD1 : D i1) (hn : ¬ D z) (h : Gr X H L n N 2 vc nc vr nf cd tm D T W) :
    wpOp Try.prog ops Q j (fun a' w' => ∃ T', a' = putAll a ks T' ∧ GrJ X H L n N 2 vc nc vr nf cd tm z kb (fun k => D k ∨ k = j) T' w') (putAll a ks T) W := by
  have e0 : T q0 = Value.agg #[.string ⟨kept.toArray⟩, .string ⟨#[]⟩, .int .i64 n] := h.lim i0 8 q0 hc0 ht0 hD0
  have e1 : T q1 = Value.agg #[.string ⟨kept.toArray⟩, .string ⟨#[]⟩, .int .i64 n] := h.lim i1 8 q1 hc1 ht1 hD1
  exact gr_slice_f c hH (ev_slice_f2 (.tmp q0) (.tmp q1) _ _ _ hop (by rw [putAll_in hq0 hs0, e0]) (by rw [putAll_in hq1 hs1, e1])) hn h
theorem gr_slice_f3 (c : Carried X H L n N vc nc vr nf) {i0 q0 i1 q1 i2 q2 : Nat} (hH : Here ops o a ks tm cd j 9 k z) (hop : o.op = Op.buildSlice 30 3 #[(0, .tmp q0), (1, .tmp q1), (2, .tmp q2)]) (hq0 : q0 ∈ ks) (hs0 : q0 < a.tmps.size) (hc0 : cd[i0]? = some 8) (ht0 : tm[i0]? = some q0) (hD0 : D i0) (hq1 : q1 ∈ ks) (hs1 : q1 < a.tmps.size) (hc1 : cd[i1]? = some 8) (ht1 : tm[i1]? = some q1) (hD1 : D i1) (hq2 : q2 ∈ ks) (hs2 : q2 < a.tmps.size) (hc2 : cd[i2]? = some 8) (ht2 : tm[i2]? = some q2) (hD2 : D i2) (hn : ¬ D z) (h : Gr X H L n N 3 vc nc vr nf cd tm D T W) :
    wpOp Try.prog ops Q j (fun a' w' => ∃ T', a' = putAll a ks T' ∧ GrJ X H L n N 3 vc nc vr nf cd tm z kb (fun k => D k ∨ k = j) T' w') (putAll a ks T) W := by
  have e0 : T q0 = Value.agg #[.string ⟨kept.toArray⟩, .string ⟨#[]⟩, .int .i64 n] := h.lim i0 8 q0 hc0 ht0 hD0
  have e1 : T q1 = Value.agg #[.string ⟨kept.toArray⟩, .string ⟨#[]⟩, .int .i64 n] := h.lim i1 8 q1 hc1 ht1 hD1
  have e2 : T q2 = Value.agg #[.string ⟨kept.toArray⟩, .string ⟨#[]⟩, .int .i64 n] := h.lim i2 8 q2 hc2 ht2 hD2
  exact gr_slice_f c hH (ev_slice_f3 (.tmp q0) (.tmp q1) (.tmp q2) _ _ _ hop (by rw [putAll_in hq0 hs0, e0]) (by rw [putAll_in hq1 hs1, e1]) (by rw [putAll_in hq2 hs2, e2])) hn h
theorem marksS_off (n k m : Nat) : (List.range (m * 1)).map (fun j => mkS n (k * 1 + j)) = marksS n m := by
  unfold marksS
  apply List.map_congr_left
  intro j _
  rfl
theorem mkF_off (n k j : Nat) : mkF n (k * 3 + j) = mkF n j := by
  unfold mkF
  rw [show (k * 3 + j) % 3 = j % 3 by omega]
theorem marksF_off (n k m : Nat) : (List.range (m * 3)).map (fun j => mkF n (k * 3 + j)) = marksF n m := by
  unfold marksF
  apply List.map_congr_left
  intro j _
  exact mkF_off n k j
theorem gr_append_s (c : Carried X H L n N vc nc vr nf) (hm : nc + m ≤ 2097152) {i q i' q' : Nat} (hH : Here ops o a ks tm cd j 5 k z) (hop : o.op = Op.call { callee := .builtin .append, args := #[.tmp q, .tmp q'], argTypes := #[39, 39] }) (hq : q ∈ ks) (hqs : q < a.tmps.size) (hci : cd[i]? = some 1) (hti : tm[i]? = some q) (hDi : D i) (hq' : q' ∈ ks) (hqs' : q' < a.tmps.size) (hci' : cd[i']? = some 4) (hti' : tm[i']? = some q') (hDi' : D i') (hn : ¬ D z) (h : Gr X H L n N m vc nc vr nf cd tm D T W) :
    wpOp Try.prog ops Q j (fun a' w' => ∃ T', a' = putAll a ks T' ∧ GrJ X H L n N m vc nc vr nf cd tm z kb (fun k => D k ∨ k = j) T' w') (putAll a ks T) W := by
  have h0 : T q = vc := h.lim i 1 q hci hti hDi
  obtain ⟨g, h1, h2⟩ : ∃ g, T q' = .slice (some ⟨g, 0, none⟩) m m ∧ Row W g 9 (marksS n m) := h.lim i' 4 q' hci' hti' hDi'
  obtain ⟨s0, hs0, sz0, sz1, sz2⟩ := info_parts Try.infoStr
  refine wpOp_step hH.ho (fun K' hK => ?_)
  refine step_append_marks (Bn := H) (f := mkS n) hH.hg (.tmp q) (.tmp q') 39 hop H 9 s0 _ 1 16 Try.underlying39 hs0 sz0 sz1 sz2 rfl (by decide) vc nc (by rw [putAll_in hq hqs, h0]) (c.cm W h.x) (Nat.le_refl _) ⟨g, 0, none⟩ m m (by rw [putAll_in hq' hqs', h1]) (news_of h2 (marksS_off n nc m)) (mkS_one n) (by unfold maxLen; omega) (by omega) (c.hH W h.x) ?_
  intro v' w' hown hu
  rw [hH.hd]
  exact hK _ _ ⟨_, putAll_put hH.hk v', GrJ.step hn hH.hz h (Mv.ups c hu) hH.hc hH.ht hH.hnd hown⟩
theorem gr_append_f (c : Carried X H L n N vc nc vr nf) (hm : nf + m ≤ 2097152) {i q i' q' : Nat} (hH : Here ops o a ks tm cd j 10 k z) (hop : o.op = Op.call { callee := .builtin .append, args := #[.tmp q, .tmp q'], argTypes := #[30, 30] }) (hq : q ∈ ks) (hqs : q < a.tmps.size) (hci : cd[i]? = some 7) (hti : tm[i]? = some q) (hDi : D i) (hq' : q' ∈ ks) (hqs' : q' < a.tmps.size) (hci' : cd[i']? = some 9) (hti' : tm[i']? = some q') (hDi' : D i') (hn : ¬ D z) (h : Gr X H L n N m vc nc vr nf cd tm D T W) :
    wpOp Try.prog ops Q j (fun a' w' => ∃ T', a' = putAll a ks T' ∧ GrJ X H L n N m vc nc vr nf cd tm z kb (fun k => D k ∨ k = j) T' w') (putAll a ks T) W := by
  have h0 : T q = vr := h.lim i 7 q hci hti hDi
  obtain ⟨g, h1, h2⟩ : ∃ g, T q' = .slice (some ⟨g, 0, none⟩) m m ∧ Row W g 61 (marksF n m) := h.lim i' 9 q' hci' hti' hDi'
  obtain ⟨s0, hs0, sz0, sz1, sz2⟩ := info_parts Try.infoAFile
  refine wpOp_step hH.ho (fun K' hK => ?_)
  refine step_append_marks (Bn := H) (f := mkF n) hH.hg (.tmp q) (.tmp q') 30 hop H 61 s0 _ 3 40 Try.underlying30 hs0 sz0 sz1 sz2 rfl (by decide) vr nf (by rw [putAll_in hq hqs, h0]) (c.fi W h.x) (Nat.le_refl _) ⟨g, 0, none⟩ m m (by rw [putAll_in hq' hqs', h1]) (news_of h2 (marksF_off n nf m)) (mkF_one n) (by unfold maxLen; omega) (by omega) (c.hH W h.x) ?_
  intro v' w' hown hu
  rw [hH.hd]
  exact hK _ _ ⟨_, putAll_put hH.hk v', GrJ.step hn hH.hz h (Mv.upf c hu) hH.hc hH.ht hH.hnd hown⟩
theorem gr_build (hm : 0 < m) {i q i' q' : Nat} (hH : Here ops o a ks tm cd j 11 k z) (hop : o.op = Op.build 41 #[(0, .tmp q), (1, .tmp q')]) (hq : q ∈ ks) (hqs : q < a.tmps.size) (hci : cd[i]? = some 5) (hti : tm[i]? = some q) (hDi : D i) (hq' : q' ∈ ks) (hqs' : q' < a.tmps.size) (hci' : cd[i']? = some 10) (hti' : tm[i']? = some q') (hDi' : D i') (hn : ¬ D z) (h : Gr X H L n N m vc nc vr nf cd tm D T W) :
    wpOp Try.prog ops Q j (fun a' w' => ∃ T', a' = putAll a ks T' ∧ GrJ X H L n N m vc nc vr nf cd tm z kb (fun k => D k ∨ k = j) T' w') (putAll a ks T) W := by
  have h0 : W.ownsRow H 9 1 (T q) (nc + m) (marksS n (nc + m)) := h.lim i 5 q hci hti hDi
  have h1 : W.ownsRow H 61 3 (T q') (nf + m) (marksF n (nf + m)) := h.lim i' 10 q' hci' hti' hDi'
  obtain ⟨g1, c1, e1, -, -⟩ := owns_form h0 (by omega)
  obtain ⟨g2, c2, e2, -, -⟩ := owns_form h1 (by omega)
  exact wpOp_value hH.ho hH.hg hH.hd hH.hk (ev_build (.tmp q) (.tmp q') hop _ _ _ _ _ _ (by rw [putAll_in hq hqs]; exact e1) (by rw [putAll_in hq' hqs']; exact e2)) (GrJ.step hn hH.hz h (Mv.refl _ _ _ _) hH.hc hH.ht hH.hnd ⟨_, _, rfl, by rw [← e1]; exact h0, by rw [← e2]; exact h1⟩)
theorem gr_store (c : Carried X H L n N vc nc vr nf) (hm : 0 < m) {i q i' q' : Nat} (ho : ops[z]? = some o) (hg : o.guard = none) (hd : o.dst = none) (hop : o.op = Op.store 41 (.tmp q) (.tmp q')) (hq : q ∈ ks) (hqs : q < a.tmps.size) (hci : cd[i]? = some 12) (hti : tm[i]? = some q) (hDi : D i) (hq' : q' ∈ ks) (hqs' : q' < a.tmps.size) (hci' : cd[i']? = some 11) (hti' : tm[i']? = some q') (hDi' : D i') (hall : ∀ i, i < z → D i) (h : Gr X H L n N m vc nc vr nf cd tm D T W) :
    wpOp Try.prog ops Q z (fun a' w' => ∃ T', a' = putAll a ks T' ∧ GrJ X H L n N m vc nc vr nf cd tm z q (fun k => D k ∨ k = z) T' w') (putAll a ks T) W := by
  obtain ⟨b, h1, h2, h3⟩ : ∃ b, T q = .pointer (some ⟨b, 0, none⟩) ∧ L ≤ b ∧ Row W b 41 [.slice none 0 0, .slice none 0 0, .int .i64 0, .int .i64 0] := h.lim i 12 q hci hti hDi
  obtain ⟨v1, f1, g1, g2, g3⟩ : ∃ v1 f1, T q' = .agg #[v1, f1, .int .i64 0, .int .i64 0] ∧ W.ownsRow H 9 1 v1 (nc + m) (marksS n (nc + m)) ∧ W.ownsRow H 61 3 f1 (nf + m) (marksF n (nf + m)) := h.lim i' 11 q' hci' hti' hDi'
  obtain ⟨p1, c1, e1, -, -⟩ := owns_form g2 (by omega)
  obtain ⟨p2, c2, e2, -, -⟩ := owns_form g3 (by omega)
  subst e1
  subst e2
  have hne : ∀ (t : TypeId) (s k : Nat) (v : Value) (xs : List Value), W.ownsRow H t s v k xs → t ≠ 41 → some b ≠ v.ownBlock := fun t s k v xs hw ht e => by
    obtain ⟨cur, fz, hcell⟩ := own_type hw b e.symm
    unfold Row at h3
    rw [h3] at hcell
    cases hcell
    exact ht rfl
  refine wpOp_skip ho hg hd (ev_store (.tmp q) (.tmp q') hop (by rw [putAll_in hq hqs, h1]) _ _ _ _ _ _ _ _ _ _ (by rw [putAll_in hq' hqs', g1]) h3) (.inr ⟨fun i hi => by by_cases e : i = z; exact .inr e; exact .inl (hall i (by omega)), b, _, _, h1, h2, ?_, (((h3.set 0 _).set 1 _).set 2 _).set 3 _, ?_, ?_⟩)
  · exact c.box W _ b _ h.x h2 h3 ((((Turned.refl (fun k => k = b) W).set rfl _ _).set rfl _ _).set rfl _ _ |>.set rfl _ _)
  · exact own_same g2 (fun k hk => ((((Turned.refl (fun k => k = b) W).set rfl _ _).set rfl _ _).set rfl _ _ |>.set rfl _ _).block k (g2.lt k hk).2 (fun e => hne _ _ _ _ _ g2 (by decide) (by rw [← e]; exact hk.symm)))
  · exact own_same g3 (fun k hk => ((((Turned.refl (fun k => k = b) W).set rfl _ _).set rfl _ _).set rfl _ _ |>.set rfl _ _).block k (g3.lt k hk).2 (fun e => hne _ _ _ _ _ g3 (by decide) (by rw [← e]; exact hk.symm)))
end
end Go.Proofs.Ytjelacjggijmfaa
namespace Go.Proofs.Ytjelacjggijmfaa
open Go.RowKit

theorem own_uniq {W : World} {B e s n : Nat} {v : Value} {xs ys : List Value} (h : W.ownsRow B e s v n xs) (g : W.ownsRow B e s v n ys) : xs = ys := by
  rcases h.2 with ⟨h1, h2⟩ | ⟨b, cap, cur, h1, h2, h3, h4, h5, h6, h7⟩
  · rcases g.2 with ⟨g1, g2⟩ | ⟨b', cap', cur', g1, g2, g3, g4, g5, g6, g7⟩
    · have hx := h.1
      have hy := g.1
      subst h2
      simp only [Nat.zero_mul, List.length_eq_zero_iff] at hx hy
      rw [hx, hy]
    · rw [h1] at g1; cases g1
  · rcases g.2 with ⟨g1, g2⟩ | ⟨b', cap', cur', g1, g2, g3, g4, g5, g6, g7⟩
    · rw [h1] at g1; cases g1
    · rw [h1] at g1
      cases g1
      rw [h3] at g3
      cases g3
      rw [← h7, ← g7]
section
variable {W Z : World} {b bb L n m H N : Nat} {E : Nat → Nat} {vres vgr vc vr : Value} {nc nf : Nat} {ex ck : Int} {w : World}
/-- A row of another type stays. -/
theorem Turned.own_row (ht : Turned (fun k => k = b) W Z) {vs : List Value} {e : TypeId} (hr : Row W b e vs) {B t s k : Nat} {v : Value} {xs : List Value} (ho : W.ownsRow B t s v k xs) (hne : t ≠ e) : Z.ownsRow B t s v k xs := own_same ho (fun q hq => ht.block q (ho.lt q hq).2 (fun e' => by
  subst e'
  obtain ⟨cur, fz, hc⟩ := own_type ho q hq
  unfold Row at hr
  rw [hr] at hc
  cases hc
  exact hne rfl))
theorem Full.turned {D e i : Nat} (h : Full W D e i vc nc vr nf) (ht : Turned (fun k => k = b) W Z) {vs : List Value} (hr : Row W b 41 vs) : Full Z D e i vc nc vr nf := ⟨ht.own_row hr h.cm (by decide), ht.own_row hr h.fi (by decide), h.lc, h.lf, h.hc, h.hf⟩
/-- The rows of the book lie below L. -/
structure GrLow (bb L n : Nat) (vres vgr : Value) (W : World) : Prop where
  gs : ∃ gs, W.ownsRow (bb + 1) 35 1 vgr n gs ∧ ∀ i g ci, i < n → gs[i]? = some (.slice (some ⟨g, 0, none⟩) 3 ci) → g < L
  lr : ∀ k, vres.ownBlock = some k → k < L
theorem GrLow.start (h : BookO W bb E (n + 1) n vres vgr) : GrLow bb W.heap.size n vres vgr W := by
  obtain ⟨cs, h1, _⟩ := h.res
  obtain ⟨gs, g1, g2⟩ := h.gr
  refine ⟨⟨gs, g1, fun i g ci hi hg => ?_⟩, fun k hk => (h1.lt k hk).2⟩
  obtain ⟨g', ci', ds, q1, q2, q3, _⟩ := g2 i hi
  rw [hg] at q1
  cases q1
  exact q3.lt
theorem GrLow.map (h : GrLow bb L n vres vgr W) (hm : ∀ gs, W.ownsRow (bb + 1) 35 1 vgr n gs → Z.ownsRow (bb + 1) 35 1 vgr n gs) : GrLow bb L n vres vgr Z := by
  obtain ⟨gs, g1, g2⟩ := h.gs
  exact ⟨⟨gs, hm gs g1, g2⟩, h.lr⟩
theorem BookO.turned (h : BookO W bb E (n + 1) n vres vgr) (hl : GrLow bb L n vres vgr W) (hb : L ≤ b) {vs : List Value} (hr : Row W b 41 vs) (ht : Turned (fun k => k = b) W Z) : BookO Z bb E (n + 1) n vres vgr := by
  obtain ⟨cs, h1, h2⟩ := h.res
  obtain ⟨gs, g1, g2⟩ := h.gr
  obtain ⟨gs', k1, k2⟩ := hl.gs
  have he := own_uniq g1 k1
  subst he
  have hbb : bb ≠ b := fun e => by
    have h3 := h.row
    subst e
    unfold Row at hr h3
    rw [hr] at h3
    cases h3
  refine ⟨ht.row h.row hbb, ⟨cs, own_same h1 (fun k hk => ht.block k (h1.lt k hk).2 (fun e => ?_)), fun i hi => (h2 i hi).map (fun _ _ _ _ q => q.turned ht hr)⟩, ⟨gs, ht.own_row hr g1 (by decide), fun i hi => ?_⟩⟩
  · have := hl.lr k hk
    omega
  · obtain ⟨g, ci, ds, q1, q2, q3, q4, q5, q6⟩ := g2 i hi
    have := k2 i g ci hi q1
    exact ⟨g, ci, ds, q1, q2, ht.row q3 (by omega), q4, q5, fun k hk => (q6 k hk).map (fun _ _ _ _ q => q.turned ht hr)⟩
theorem KB.turned (h : KB w bb H N E n vres vgr vc nc vr nf ex ck W) (hl : GrLow bb L n vres vgr W) (hN : N + 1 < L) (hbL : bb < L) (hb : L ≤ b) {vs : List Value} (hr : Row W b 41 vs) (ht : Turned (fun k => k = b) W Z) : KB w bb H N E n vres vgr vc nc vr nf ex ck Z :=
  ⟨h.book.turned hl hb hr ht, ht.row h.rbox (by omega), ht.row h.fbox (by omega), (h.full.turned ht hr).wide ht.size, ht.below h.below (by have := h.book.row.lt; omega) (fun k e => by omega)⟩
/-- What else is carried along. -/
structure Along (O : World → Prop) (H L n : Nat) : Prop where
  later : ∀ W Z, O W → Below W.heap.size W Z → O Z
  ups : ∀ W Z, O W → MkUp H 9 (mkS n) W Z → O Z
  upf : ∀ W Z, O W → MkUp H 61 (mkF n) W Z → O Z
  box : ∀ W Z b vs, O W → L ≤ b → Row W b 41 vs → Turned (fun k => k = b) W Z → O Z
theorem Along.none : Along (fun _ => True) H L n := ⟨fun _ _ _ _ => trivial, fun _ _ _ _ => trivial, fun _ _ _ _ => trivial, fun _ _ _ _ _ _ _ _ => trivial⟩
theorem Along.size {h : Nat} : Along (fun W => h ≤ W.heap.size) H L n := ⟨fun _ _ q k => Nat.le_trans q k.size, fun _ _ q k => Nat.le_trans q k.size, fun _ _ q k => Nat.le_trans q k.size, fun _ _ _ _ q _ _ k => Nat.le_trans q k.size⟩
theorem Along.and {O O' : World → Prop} (h : Along O H L n) (g : Along O' H L n) : Along (fun W => O W ∧ O' W) H L n :=
  ⟨fun W Z q k => ⟨h.later W Z q.1 k, g.later W Z q.2 k⟩, fun W Z q k => ⟨h.ups W Z q.1 k, g.ups W Z q.2 k⟩, fun W Z q k => ⟨h.upf W Z q.1 k, g.upf W Z q.2 k⟩, fun W Z b vs q l r k => ⟨h.box W Z b vs q.1 l r k, g.box W Z b vs q.2 l r k⟩⟩
theorem Along.one {N8 c1 d1 : Nat} {v1 f1 : Value} (hL : N8 < L) : Along (OneB bb H n vres N8 v1 c1 f1 d1) H L n :=
  ⟨fun _ _ q k => q.later k, fun _ _ q k => q.ups k, fun _ _ q k => q.upf k, fun _ _ _ _ q l r k => ⟨k.row q.row (by omega), (q.full.turned k r).wide k.size, q.gt, q.ne⟩⟩
theorem carried {O : World → Prop} (ho : Along O H L n) (hE : ∀ i, i < n → E i ≤ H) (hbb : bb < H) (hN : N + 1 < L) (hbL : bb < L) (hHw : H ≤ w.heap.size) : Carried (fun W => KB w bb H N E n vres vgr vc nc vr nf ex ck W ∧ GrLow bb L n vres vgr W ∧ O W) H L n N vc nc vr nf := by
  refine ⟨fun W Z h k => ⟨h.1.later k, h.2.1.map (fun gs q => own_same q (fun j hj => k.block j (q.lt j hj).2)), ho.later W Z h.2.2 k⟩, fun W Z h k => ⟨h.1.ups k hE hbb, h.2.1.map (fun gs q => k.other q (by decide)), ho.ups W Z h.2.2 k⟩, fun W Z h k => ⟨h.1.upf k hE hbb, h.2.1.map (fun gs q => k.other q (by decide)), ho.upf W Z h.2.2 k⟩, fun W Z b vs h l r k => ⟨h.1.turned h.2.1 hN hbL l r k, h.2.1.map (fun gs q => k.own_row r q (by decide)), ho.box W Z b vs h.2.2 l r k⟩, fun W h => ⟨_, _, h.1.rbox⟩, fun W h => h.1.fbox, fun W h => h.1.full.cm, fun W h => h.1.full.fi, fun W h => Nat.le_trans hHw h.1.below.size⟩
/-- What the statement leaves. -/
theorem grown_one {v1 f1 : Value} (hL : L ≤ b) (hbL : bb < L) (hl : ∀ k, vres.ownBlock = some k → k < L) (hr : Row W b 41 [v1, f1, .int .i64 0, .int .i64 0]) (h1 : W.ownsRow H 9 1 v1 (nc + m) (marksS n (nc + m))) (h2 : W.ownsRow H 61 3 f1 (nf + m) (marksF n (nf + m))) (hc : nc + m ≤ 2097152) (hf : nf + m ≤ 2097152) : OneB bb H n vres b v1 (nc + m) f1 (nf + m) W :=
  ⟨hr, ⟨h1, h2, fun k hk => (h1.lt k hk).2, fun k hk => (h2.lt k hk).2, hc, hf⟩, by omega, fun e => by have := hl b e.symm; omega⟩
/-- At the beginning of such a statement. -/
theorem grow_start {O : World → Prop} (h : KB w bb H N E n vres vgr vc nc vr nf ex ck W) (ho : O W) (al : Along O H W.heap.size n) (hE : ∀ i, i < n → E i ≤ H) (hbb : bb < H) (hHw : H ≤ w.heap.size) :
    ∃ L, L ≤ W.drew.heap.size ∧ bb < L ∧ (∀ k, vres.ownBlock = some k → k < L) ∧ Carried (fun W => KB w bb H N E n vres vgr vc nc vr nf ex ck W ∧ GrLow bb L n vres vgr W ∧ O W) H L n N vc nc vr nf ∧ (KB w bb H N E n vres vgr vc nc vr nf ex ck W.drew ∧ GrLow bb L n vres vgr W.drew ∧ O W.drew) := by
  have hb := h.book.row.lt
  have hl := GrLow.start h.book
  have hd : Below W.heap.size W W.drew := (Below.refl _ W).drew
  have hc := carried (vres := vres) (vgr := vgr) (vc := vc) (nc := nc) (vr := vr) (nf := nf) (ex := ex) (ck := ck) al hE hbb h.fbox.lt hb hHw
  exact ⟨W.heap.size, Nat.le_refl _, hb, hl.lr, hc, hc.later W _ ⟨h, hl, ho⟩ hd⟩
theorem blt_of {k m : Nat} (h : Nat.ble (k + 1) m = true) : k < m := Nat.le_of_ble_eq_true h
end
end Go.Proofs.Ytjelacjggijmfaa
namespace Go.Proofs.Ytjelacjggijmfaa
open Go.RowKit

theorem Try.infoSRes : (Try.prog.info? 35).map (fun i => (i.zero, i.size, i.bytes)) = some (some (.slice none 0 0), 1, 24) := by kernel_rfl
theorem grown_two {wr w1 : World} {o o' : Obj} {r : Option Nat} (h : ((wr.alloc o).alloc o').drew.grownBy w1 r) : wr.grownBy w1 r := (World.grownBy_alloc wr o r).trans ((World.grownBy_alloc _ o' r).trans ⟨h.os, h.tape, h.output, h.size, h.block⟩)
theorem row_two {wr w1 : World} {t : TypeId} {ds : List Value} {o' : Obj} {r : Option Nat} (h : ((wr.alloc (.cells ds.toArray t)).alloc o').drew.grownBy w1 r) (hr : ∀ k, r = some k → k < wr.heap.size) : Row w1 wr.heap.size t ds := by
  have h1 : Row ((wr.alloc (.cells ds.toArray t)).alloc o').drew wr.heap.size t ds := (Row.new wr t ds).alloc o'
  exact h1.grown h (fun e => by have := hr _ e.symm; omega)
theorem one_slice (a : Option Addr) (n c : Nat) : ∀ u ∈ [Value.slice a n c], u.oneCell' = true := by
  intro u hu
  simp only [List.mem_cons, List.not_mem_nil, or_false] at hu
  subst hu
  rfl
section
variable {W Z : World} {bb H N n : Nat} {E : Nat → Nat} {vres vgr vgr' vc vr : Value} {nc nf : Nat} {ex ck : Int} {w : World}
theorem BookO.pushG {g ci : Nat} {gs ds : List Value} (h : BookO W bb E (n + 1) n vres vgr) (hgs : W.ownsRow (bb + 1) 35 1 vgr n gs) (hall : ∀ i, i < n → ∃ g ci cs, gs[i]? = some (.slice (some ⟨g, 0, none⟩) 3 ci) ∧ bb < g ∧ Row W g 41 cs ∧ cs.length = 12 ∧ some g ≠ vres.ownBlock ∧ ∀ k, k < 3 → FullAt W (bb + 1) (E i) i cs k)
    (hg : W.grownBy Z vgr.ownBlock) (hs : Z.ownsRow (bb + 1) 35 1 vgr' (n + 1) (gs ++ [.slice (some ⟨g, 0, none⟩) 3 ci])) (hr : Row Z g 41 ds) (hg3 : W.heap.size ≤ g) (hl : ds.length = 12) (hfull : ∀ k, k < 3 → FullAt W (bb + 1) (E n) n ds k) : BookO (Z.setCell ⟨bb, 1, none⟩ vgr') bb E (n + 1) (n + 1) vres vgr' := by
  have hbb := h.row.lt
  obtain ⟨cs, h1, h2⟩ := h.res
  have hty : ∀ k, vgr.ownBlock = some k → ∃ cur t fz, W.heap[k]? = some (Obj.cells cur t fz) ∧ t ≠ 9 ∧ t ≠ 61 := fun k e => by
    obtain ⟨cur, fz, hc⟩ := own_type hgs k e
    exact ⟨cur, _, fz, hc, by decide, by decide⟩
  have hset : ∀ k, k ≠ bb → (Z.setCell ⟨bb, 1, none⟩ vgr').heap[k]? = Z.heap[k]? := fun k hk => Below.heap_setCell Z ⟨bb, 1, none⟩ _ k hk
  have hrowb : Row Z bb 38 [vres, vgr] := h.row.grown hg (own_ne hgs (Nat.lt_succ_self _))
  have hF : ∀ i vc nc vr nf, Full W (bb + 1) (E i) i vc nc vr nf → Full (Z.setCell ⟨bb, 1, none⟩ vgr') (bb + 1) (E i) i vc nc vr nf := fun i vc nc vr nf hx => by
    have h1 := hx.kept hg hty
    exact ⟨owns_other h1.cm (own_ne h1.cm (by omega)) _ _, owns_other h1.fi (own_ne h1.fi (by omega)) _ _, h1.lc, h1.lf, h1.hc, h1.hf⟩
  have hcs : Z.ownsRow (bb + 1) 41 4 vres (n + 1) cs := by
    rcases apart h1 hgs (by decide) with e | e
    · exact World.ownsRow.kept h1 hg (.inl e)
    · exact World.ownsRow.kept h1 hg (.inr e)
  have hgl : gs.length = n := by have := hgs.1; omega
  have hgrow : ∀ g', g' < W.heap.size → (∃ cs, Row W g' 41 cs) → some g' ≠ vgr.ownBlock := fun g' _ hx e => by
    obtain ⟨cs', hx⟩ := hx
    obtain ⟨cur, fz, hc⟩ := own_type hgs g' e.symm
    unfold Row at hx
    rw [hx] at hc
    cases hc
  refine ⟨hrowb.set 1 vgr', ⟨cs, owns_other hcs (own_ne hcs (by omega)) _ _, fun i hi => (h2 i hi).map (fun _ _ _ _ => hF i _ _ _ _)⟩, ⟨_, owns_other hs (own_ne hs (by omega)) _ _, fun i hi => ?_⟩⟩
  by_cases hin : i < n
  · obtain ⟨g', ci', es, q1, q2, q3, q4, q5, q6⟩ := hall i hin
    refine ⟨g', ci', es, ?_, q2, (hset g' (by omega)).trans ((hg.block g' q3.lt (hgrow g' q3.lt ⟨_, q3⟩)).trans q3), q4, q5, fun k hk => (q6 k hk).map (fun _ _ _ _ => hF i _ _ _ _)⟩
    rw [List.getElem?_append_left (by omega)]
    exact q1
  · have : i = n := by omega
    subst this
    refine ⟨g, ci, ds, ?_, by omega, (hset g (by omega)).trans hr, hl, fun e => ?_, fun k hk => (hfull k hk).map (fun _ _ _ _ => hF i _ _ _ _)⟩
    · rw [List.getElem?_append_right (by omega)]
      simp [hgl]
    · have := (h1.lt g e.symm).2
      omega
theorem OneB.fullAt {N8 c1 d1 e k : Nat} {v1 f1 : Value} {ds : List Value} (h : OneB bb H n vres N8 v1 c1 f1 d1 W) (hH : bb + 1 ≤ H) (he : W.heap.size ≤ e) (hd : (ds.drop (4 * k)).take 4 = [v1, f1, .int .i64 0, .int .i64 0]) : FullAt W (bb + 1) e n ds k :=
  ⟨v1, c1, f1, d1, 0, 0, hd, own_mono h.full.cm hH, own_mono h.full.fi hH, fun k hk => Nat.lt_of_lt_of_le (h.full.lc k hk) he, fun k hk => Nat.lt_of_lt_of_le (h.full.lf k hk) he, h.full.hc, h.full.hf⟩
/-- All that the last statement leaves. -/
theorem keep_end {E0 : Nat → Nat} {h0 N8 N9 N10 c1 d1 c2 d2 c3 d3 ci : Nat} {v1 f1 v2 f2 v3 f3 : Value} {gs : List Value} (h : KB w bb H N (Ew E0 n h0) n vres vgr vc nc vr nf ex ck W) (hh : h0 ≤ W.heap.size) (hE : ∀ i, i < n → E0 i ≤ H) (hHw : H ≤ w.heap.size) (hbb : bb < H) (o1 : OneB bb H n vres N8 v1 c1 f1 d1 W) (o2 : OneB bb H n vres N9 v2 c2 f2 d2 W) (o3 : OneB bb H n vres N10 v3 c3 f3 d3 W)
    (hgs : W.ownsRow (bb + 1) 35 1 vgr n gs) (hg : W.grownBy Z vgr.ownBlock) (hs : Z.ownsRow (bb + 1) 35 1 vgr' (n + 1) (gs ++ [.slice (some ⟨W.heap.size, 0, none⟩) 3 ci])) (hr : Row Z W.heap.size 41 [v1, f1, .int .i64 0, .int .i64 0, v2, f2, .int .i64 0, .int .i64 0, v3, f3, .int .i64 0, .int .i64 0]) :
    (∃ E' vres' vgr'', BookO (Z.setCell ⟨bb, 1, none⟩ vgr') bb E' (n + 1) (n + 1) vres' vgr'' ∧ ∀ i, i < n + 1 → E' i ≤ (Z.setCell ⟨bb, 1, none⟩ vgr').heap.size) ∧ Below bb w (Z.setCell ⟨bb, 1, none⟩ vgr') := by
  have hw := h.book.wide (E' := Ew E0 n W.heap.size) (fun i hi => by
    by_cases e : i = n
    · subst e; rw [Ew_at, Ew_at]; exact hh
    · rw [Ew_ne e, Ew_ne e]; exact Nat.le_refl _)
  obtain ⟨gs', g1, g2⟩ := hw.gr
  have he := own_uniq hgs g1
  subst he
  have hsz : (Z.setCell ⟨bb, 1, none⟩ vgr').heap.size = Z.heap.size := by simp
  have hgz := hg.size
  have hbz := h.below.size
  have hlt := h.book.row.lt
  have hbl : Below bb W Z := ⟨hg.os, hg.tape, hg.output, hg.size, fun k hk => hg.block k (by omega) (fun e => by have := (hgs.lt k e.symm).1; omega)⟩
  refine ⟨⟨_, _, _, hw.pushG hgs g2 hg hs hr (Nat.le_refl _) rfl (fun k hk => ?_), fun i hi => ?_⟩, (h.below.trans hbl).setCell (p := ⟨bb, 1, none⟩) (Nat.le_refl _) _⟩
  · rw [Ew_at]
    match k, hk with
    | 0, _ => exact o1.fullAt (by omega) (Nat.le_refl _) rfl
    | 1, _ => exact o2.fullAt (by omega) (Nat.le_refl _) rfl
    | 2, _ => exact o3.fullAt (by omega) (Nat.le_refl _) rfl
  · rw [hsz]
    by_cases e : i = n
    · subst e; rw [Ew_at]; exact hgz
    · rw [Ew_ne e]
      have := hE i (by omega)
      omega
end
end Go.Proofs.Ytjelacjggijmfaa
