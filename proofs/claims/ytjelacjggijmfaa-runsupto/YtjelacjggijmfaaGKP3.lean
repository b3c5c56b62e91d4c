/-
  The law's own: a result is written full.
  The law's own: the result stands in the book, and is kept grown.
-/
import Derived.Test.YtjelacjggijmfaaGKP1
import Derived.Deep.RegionHeld3
import Derived.Deep.RegionLaw
import Derived.Deep.DrawnRows
namespace Go.Proofs.Ytjelacjggijmfaa
open Go.RowKit

/-- While the commands, then the files, are written full: i commands, k files. -/
structure KA (w : World) (bb H N : Nat) (E : Nat → Nat) (n : Nat) (vres vgr : Value) (vc : Value) (nc : Nat) (vr : Value) (nf : Nat) (ex ck : Int) (i k : Nat) (W : World) : Prop where
  book : BookO W bb E n n vres vgr
  rbox : Row W N 41 [vc, vr, .int .i64 ex, .int .i64 ck]
  fbox : Row W (N + 1) 61 [.string ⟨kept.toArray⟩, .string ⟨#[]⟩, .int .i64 n]
  cm : ∃ xs, W.ownsRow H 9 1 vc nc xs ∧ ∀ j, j < i → xs[j]? = some (mkS n j)
  fi : ∃ ys, W.ownsRow H 61 3 vr nf ys ∧ ∀ j, j < k * 3 → ys[j]? = some (mkF n j)
  below : Below bb w W
section
variable {w : World} {bb H N : Nat} {E : Nat → Nat} {n : Nat} {vres vgr vc vr : Value} {nc nf : Nat} {ex ck : Int} {i k : Nat} {W Z : World}
theorem KA.later (h : KA w bb H N E n vres vgr vc nc vr nf ex ck i k W) (hb : Below W.heap.size W Z) : KA w bb H N E n vres vgr vc nc vr nf ex ck i k Z := by
  obtain ⟨xs, h1, h2⟩ := h.cm
  obtain ⟨ys, h3, h4⟩ := h.fi
  have hl := h.book.row.lt
  exact ⟨h.book.later hb, h.rbox.later hb, h.fbox.later hb, ⟨xs, own_same h1 (fun k hk => hb.block k (h1.lt k hk).2), h2⟩, ⟨ys, own_same h3 (fun k hk => hb.block k (h3.lt k hk).2), h4⟩, h.below.trans (hb.mono (by omega))⟩
theorem own_set {W : World} {B e n g cap j : Nat} {xs : List Value} {u : Value} {size : Nat} (h : W.ownsRow B e size (.slice (some ⟨g, 0, none⟩) n cap) n xs) : (W.setCell ⟨g, j, none⟩ u).ownsRow B e size (.slice (some ⟨g, 0, none⟩) n cap) n (xs.set j u) := by
  have hl := h.1
  refine ⟨by simp [hl], .inr ?_⟩
  rcases h.2 with ⟨h1, _⟩ | ⟨g', cap', cur, h1, h2, h3, h4, h5, h6, h7⟩
  · cases h1
  · cases h1
    have hr : Row W g e cur.toList := by unfold Row; simpa using h3
    have hr2 := hr.set j u
    refine ⟨g, cap, (cur.toList.set j u).toArray, rfl, h2, hr2, h4, h5, by simp [h6], ?_⟩
    simp only
    rw [← h7, List.take_set]
theorem KA.setC {g cap : Nat} (h : KA w bb H N E n vres vgr (.slice (some ⟨g, 0, none⟩) nc cap) nc vr nf ex ck i k W) (hi : i < nc) (hbb : bb < H) (hE : ∀ i, i < n → E i ≤ H) : KA w bb H N E n vres vgr (.slice (some ⟨g, 0, none⟩) nc cap) nc vr nf ex ck (i + 1) k (W.setCell ⟨g, i, none⟩ (.string ⟨(markB n).toArray⟩)) := by
  obtain ⟨xs, h1, h2⟩ := h.cm
  obtain ⟨ys, h3, h4⟩ := h.fi
  obtain ⟨cur, fz, hc⟩ := own_type h1 g rfl
  have hg := (h1.lt g rfl).1
  have hrow : ∃ cs, Row W g 9 cs := by
    rcases h1.2 with ⟨q, _⟩ | ⟨g', cap', cur', q1, _, q3, _⟩
    · cases q
    · cases q1; exact ⟨cur'.toList, by unfold Row; simpa using q3⟩
  obtain ⟨cs, hcs⟩ := hrow
  have hu : MkUp H 9 (mkS n) W (W.setCell ⟨g, i, none⟩ (.string ⟨(markB n).toArray⟩)) := MkUp.set (f := mkS n) (j := i) hcs hg
  have hl := h1.1
  refine ⟨h.book.ups hu (fun i hi => .inl (hE i (by omega))), hu.row h.rbox (by decide), hu.row h.fbox (by decide), ⟨_, own_set h1, fun j hj => ?_⟩, ⟨ys, hu.other h3 (by decide), h4⟩, h.below.setCell (p := ⟨g, i, none⟩) (by show bb ≤ g; omega) _⟩
  by_cases e : j = i
  · subst e; rw [List.getElem?_set_self (by omega)]; rfl
  · rw [List.getElem?_set_ne (fun q => e q.symm)]; exact h2 j (by omega)
theorem KA.setF {g cap : Nat} (h : KA w bb H N E n vres vgr vc nc (.slice (some ⟨g, 0, none⟩) nf cap) nf ex ck i k W) (hi : k < nf) (hne : N + 1 ≠ g) (hbb : bb < H) (hE : ∀ i, i < n → E i ≤ H) : KA w bb H N E n vres vgr vc nc (.slice (some ⟨g, 0, none⟩) nf cap) nf ex ck i (k + 1) (((W.setCell ⟨g, k * 3, none⟩ (.string ⟨kept.toArray⟩)).setCell ⟨g, k * 3 + 1, none⟩ (.string ⟨#[]⟩)).setCell ⟨g, k * 3 + 2, none⟩ (.int .i64 n)) := by
  obtain ⟨xs, h1, h2⟩ := h.cm
  obtain ⟨ys, h3, h4⟩ := h.fi
  have hg := (h3.lt g rfl).1
  have hrow : ∃ cs, Row W g 61 cs := by
    rcases h3.2 with ⟨q, _⟩ | ⟨g', cap', cur', q1, _, q3, _⟩
    · cases q
    · cases q1; exact ⟨cur'.toList, by unfold Row; simpa using q3⟩
  obtain ⟨cs, hcs⟩ := hrow
  have e0 : Value.string ⟨kept.toArray⟩ = mkF n (k * 3) := by unfold mkF; rw [if_pos (by omega)]; rfl
  have e1 : Value.string ⟨#[]⟩ = mkF n (k * 3 + 1) := by unfold mkF; rw [if_neg (by omega), if_pos (by omega)]; rfl
  have e2 : Value.int .i64 n = mkF n (k * 3 + 2) := by unfold mkF; rw [if_neg (by omega), if_neg (by omega)]
  rw [e0, e1, e2]
  have u1 : MkUp H 61 (mkF n) W _ := MkUp.set (f := mkF n) (j := k * 3) hcs hg
  have r1 := hcs.set (k * 3) (mkF n (k * 3))
  have u2 : MkUp H 61 (mkF n) _ _ := MkUp.set (f := mkF n) (j := k * 3 + 1) r1 hg
  have r2 := r1.set (k * 3 + 1) (mkF n (k * 3 + 1))
  have u3 : MkUp H 61 (mkF n) _ _ := MkUp.set (f := mkF n) (j := k * 3 + 2) r2 hg
  have hu := (u1.trans u2).trans u3
  have hl := h3.1
  refine ⟨h.book.upf hu (fun i hi => .inl (hE i (by omega))), hu.row h.rbox (by decide), ((h.fbox.other hne _ _).other hne _ _).other hne _ _, ⟨xs, hu.other h1 (by decide), h2⟩, ⟨_, own_set (own_set (own_set h3)), fun j hj => ?_⟩, ((h.below.setCell (p := ⟨g, k * 3, none⟩) (by show bb ≤ g; omega) _).setCell (p := ⟨g, k * 3 + 1, none⟩) (by show bb ≤ g; omega) _).setCell (p := ⟨g, k * 3 + 2, none⟩) (by show bb ≤ g; omega) _⟩
  by_cases e3 : j = k * 3 + 2
  · subst e3; rw [List.getElem?_set_self (by simp; omega)]
  · rw [List.getElem?_set_ne (fun q => e3 q.symm)]
    by_cases e4 : j = k * 3 + 1
    · subst e4; rw [List.getElem?_set_self (by simp; omega)]
    · rw [List.getElem?_set_ne (fun q => e4 q.symm)]
      by_cases e5 : j = k * 3
      · subst e5; rw [List.getElem?_set_self (by omega)]
      · rw [List.getElem?_set_ne (fun q => e5 q.symm)]; exact h4 j (by omega)
end
theorem Try.infoARes : (Try.prog.info? 41).map (fun i => (i.zero, i.size, i.bytes)) = some (some (.agg #[.slice none 0 0, .slice none 0 0, .int .i64 0, .int .i64 0]), 4, 64) := by kernel_rfl
theorem step_append_at {P : Program} {ops : Array Oper} {o : Oper} {a : Act} {w : World} {K : Act → World → Prop} {Q : Exit → Act → World → Prop} {E : Prop}
    (hg : o.guard = none) (s x : Operand) (t : TypeId) (hop : o.op = Op.call { callee := Callee.builtin Builtin.append, args := #[s, x], argTypes := #[t, t] })
    (base : Nat) (e : TypeId) (i : TypeInfo) (z : Value) (size bytes : Nat) (h1 : P.underlying t = some (.slice e)) (h2 : P.info? e = some i) (h3 : i.zero = some z) (h4 : i.size = size) (h5 : i.bytes = bytes) (h6 : z.cells.size = size) (h7 : 0 < size)
    (v : Value) (n : Nat) (xs : List Value) (hs : a.eval s = v) (hown : w.ownsRow base e size v n xs)
    (ad : Addr) (m c : Nat) (news : List Value) (hx : a.eval x = .slice (some ad) m c) (hn : news.length = m * size) (hc : ∀ j u, news[j]? = some u → w.cell? (ad.add j) = some u) (h1c : ∀ u ∈ news, u.oneCell' = true)
    (b1 : n + m ≤ maxLen) (b2 : (n + m) * bytes ≤ 140737488355328) (hbase : base ≤ w.heap.size)
    (hK : ∀ v' w', w'.ownsRow base e size v' (n + m) (xs ++ news) → w.grownBy w' v.ownBlock → (v'.ownBlock = v.ownBlock ∨ v'.ownBlock = some w.heap.size) → K (a.put o.dst v') w') :
    if Region.wanted o (yielded ops a.tmps) = true then Oper.wp P o a w K Q else E := by
  have hw : Region.wanted o (yielded ops a.tmps) = true := by simp [Region.wanted, hg]
  rw [if_pos hw]
  obtain ⟨v', w', hrun, r1, r2, _, r4⟩ := run_append_own_at (P := P) w base t o.type e i z size bytes h1 h2 h3 h4 h5 h6 h7 v n xs hown ad m c news hn hc h1c b1 b2 hbase
  unfold Oper.wp
  simp [execOp, hop, resolve, invoke, builtin, hs, hx, hrun, Result.andThen]
  exact hK v' w' r1 r2 r4
theorem four_one (a1 a2 : Option Addr) (n1 c1 n2 c2 : Nat) (ex ck : Int) : ∀ u ∈ [Value.slice a1 n1 c1, .slice a2 n2 c2, .int .i64 ex, .int .i64 ck], u.oneCell' = true := by
  intro u hu
  simp only [List.mem_cons, List.not_mem_nil, or_false] at hu
  rcases hu with rfl | rfl | rfl | rfl <;> rfl
theorem fresh_drew {w : World} {o : Obj} {v v' : Value} (h : v'.ownBlock = v.ownBlock ∨ v'.ownBlock = some (w.alloc o).drew.heap.size) : Fresh w v v' := fun k hk => by
  rcases h with e | e
  · exact .inl (e ▸ hk)
  · rw [e] at hk
    cases hk
    exact .inr (by show w.heap.size ≤ (w.alloc o).heap.size; rw [World.size_alloc]; omega)
def Ew (E : Nat → Nat) (n h : Nat) : Nat → Nat := fun i => if i = n then h else E i
theorem Ew_at (E : Nat → Nat) (n h : Nat) : Ew E n h n = h := by unfold Ew; rw [if_pos rfl]
theorem Ew_ne {E : Nat → Nat} {n h i : Nat} (hi : i ≠ n) : Ew E n h i = E i := by unfold Ew; rw [if_neg hi]
/-- The result stands in the book; the rows of its marks. -/
structure KB (w : World) (bb H N : Nat) (E : Nat → Nat) (n : Nat) (vres vgr : Value) (vc : Value) (nc : Nat) (vr : Value) (nf : Nat) (ex ck : Int) (W : World) : Prop where
  book : BookO W bb E (n + 1) n vres vgr
  rbox : Row W N 41 [vc, vr, .int .i64 ex, .int .i64 ck]
  fbox : Row W (N + 1) 61 [.string ⟨kept.toArray⟩, .string ⟨#[]⟩, .int .i64 n]
  full : Full W H W.heap.size n vc nc vr nf
  below : Below bb w W
/-- All is written full. -/
theorem KA.full {w : World} {bb H N : Nat} {E : Nat → Nat} {n : Nat} {vres vgr vc vr : Value} {nc nf : Nat} {ex ck : Int} {W : World} (h : KA w bb H N E n vres vgr vc nc vr nf ex ck nc nf W) (hc : nc ≤ 2097152) (hf : nf ≤ 2097152) : Full W H W.heap.size n vc nc vr nf := by
  obtain ⟨xs, h1, h2⟩ := h.cm
  obtain ⟨ys, h3, h4⟩ := h.fi
  have ex : xs = marksS n nc := by
    have hl := h1.1
    apply List.ext_getElem?
    intro j
    by_cases hj : j < nc
    · rw [h2 j hj]; unfold marksS; simp [hj]
    · rw [List.getElem?_eq_none (by omega), List.getElem?_eq_none (by unfold marksS; simp; omega)]
  have ey : ys = marksF n nf := by
    have hl := h3.1
    apply List.ext_getElem?
    intro j
    by_cases hj : j < nf * 3
    · rw [h4 j hj]; unfold marksF; simp [hj]
    · rw [List.getElem?_eq_none (by omega), List.getElem?_eq_none (by unfold marksF; simp; omega)]
  subst ex
  subst ey
  exact ⟨h1, h3, fun k hk => (h1.lt k hk).2, fun k hk => (h3.lt k hk).2, hc, hf⟩
theorem KB.start {w wr w1 : World} {bb H N : Nat} {E : Nat → Nat} {n : Nat} {vres vres1 vgr vc vr : Value} {nc nf : Nat} {ex ck : Int} {cs : List Value} (h : KA w bb H N E n vres vgr vc nc vr nf ex ck nc nf wr) (hf : Full wr H wr.heap.size n vc nc vr nf) (hcs : wr.ownsRow (bb + 1) 41 4 vres n cs) (hN : ∀ k, vres.ownBlock = some k → k < N) (hbN : bb < N) (hbb : bb < H) (hg : wr.grownBy w1 vres.ownBlock)
    (hB : BookO (w1.setCell ⟨bb, 0, none⟩ vres1) bb (Ew E n wr.heap.size) (n + 1) n vres1 vgr) : KB w bb H N (Ew E n wr.heap.size) n vres1 vgr vc nc vr nf ex ck (w1.setCell ⟨bb, 0, none⟩ vres1) := by
  have hty : ∀ k, vres.ownBlock = some k → ∃ cur t fz, wr.heap[k]? = some (Obj.cells cur t fz) ∧ t ≠ 9 ∧ t ≠ 61 := fun k e => by
    obtain ⟨cur, fz, hc⟩ := own_type hcs k e
    exact ⟨cur, _, fz, hc, by decide, by decide⟩
  have f1 := hf.kept hg hty
  have hsz : (w1.setCell ⟨bb, 0, none⟩ vres1).heap.size = w1.heap.size := by simp
  have hgs := hg.size
  have hbl : Below bb wr w1 := ⟨hg.os, hg.tape, hg.output, hg.size, fun k hk => hg.block k (by have := h.book.row.lt; omega) (fun e => by have := (hcs.lt k e.symm).1; omega)⟩
  refine ⟨hB, (h.rbox.grown hg (fun e => ?_)).other (by omega) _ _, (h.fbox.grown hg (fun e => ?_)).other (by omega) _ _, ⟨owns_other f1.cm (own_ne f1.cm hbb) _ _, owns_other f1.fi (own_ne f1.fi hbb) _ _, fun k e => ?_, fun k e => ?_, f1.hc, f1.hf⟩, (h.below.trans hbl).setCell (p := ⟨bb, 0, none⟩) (Nat.le_refl _) _⟩
  · have := hN N e.symm; omega
  · have := hN (N + 1) e.symm; omega
  · have := f1.lc k e; omega
  · have := f1.lf k e; omega
end Go.Proofs.Ytjelacjggijmfaa
namespace Go.Proofs.Ytjelacjggijmfaa
open Go.RowKit

/-- A row of nothing but marks stays as it is. -/
theorem MkUp.marks {Bn : Nat} {e : TypeId} {f : Nat → Value} {A B : World} (h : MkUp Bn e f A B) {k : Nat} {vs : List Value} (hr : Row A k e vs) (hv : ∀ j u, vs[j]? = some u → u = f j) : Row B k e vs := by
  rcases h.block k hr.lt with h1 | ⟨_, cs, cs', r1, r2, l1, c1⟩
  · exact h1.trans hr
  · have he : cs = vs := by
      unfold Row at r1 hr
      rw [hr] at r1
      injection r1 with r1
      injection r1 with r1
      simpa using r1.symm
    subst he
    have : cs' = cs := by
      apply List.ext_getElem?
      intro j
      rcases c1 j with c | c
      · exact c
      · by_cases hj : j < cs.length
        · rw [c, List.getElem?_eq_getElem hj, ← hv j cs[j] (List.getElem?_eq_getElem hj)]
        · rw [List.getElem?_eq_none (by omega), List.getElem?_eq_none (by omega)]
    subst this
    exact r2
theorem kept_marks (n : Nat) : ∀ j u, ([.string ⟨kept.toArray⟩, .string ⟨#[]⟩, .int .i64 n] : List Value)[j]? = some u → u = mkF n j := fun j u hj => by
  match j, hj with
  | 0, hj => cases hj; rfl
  | 1, hj => cases hj; rfl
  | 2, hj => cases hj; rfl
section
variable {w : World} {bb H N : Nat} {E : Nat → Nat} {n : Nat} {vres vgr vc vr : Value} {nc nf : Nat} {ex ck : Int} {W Z : World}
theorem Full.big {D e e' m : Nat} {v u : Value} {c d : Nat} (h : Full W D e m v c u d) (hW : e ≤ e') : Full W D e' m v c u d := h.wide hW
theorem KB.later (h : KB w bb H N E n vres vgr vc nc vr nf ex ck W) (hb : Below W.heap.size W Z) : KB w bb H N E n vres vgr vc nc vr nf ex ck Z :=
  ⟨h.book.later hb, h.rbox.later hb, h.fbox.later hb, (h.full.later hb).wide hb.size, h.below.trans (hb.mono (by have := h.book.row.lt; omega))⟩
theorem KB.ups (h : KB w bb H N E n vres vgr vc nc vr nf ex ck W) (hu : MkUp H 9 (mkS n) W Z) (hE : ∀ i, i < n → E i ≤ H) (hbb : bb < H) : KB w bb H N E n vres vgr vc nc vr nf ex ck Z :=
  ⟨h.book.ups hu (fun i hi => by by_cases e : i = n; exact .inr e; exact .inl (hE i (by omega))), hu.row h.rbox (by decide), hu.row h.fbox (by decide), (h.full.ups hu).wide hu.size, h.below.trans ⟨hu.os, hu.tape, hu.output, hu.size, fun k hk => hu.low (by have := h.book.row.lt; omega) (by omega)⟩⟩
theorem KB.upf (h : KB w bb H N E n vres vgr vc nc vr nf ex ck W) (hu : MkUp H 61 (mkF n) W Z) (hE : ∀ i, i < n → E i ≤ H) (hbb : bb < H) : KB w bb H N E n vres vgr vc nc vr nf ex ck Z :=
  ⟨h.book.upf hu (fun i hi => by by_cases e : i = n; exact .inr e; exact .inl (hE i (by omega))), hu.row h.rbox (by decide), hu.marks h.fbox (kept_marks n), (h.full.upf hu).wide hu.size, h.below.trans ⟨hu.os, hu.tape, hu.output, hu.size, fun k hk => hu.low (by have := h.book.row.lt; omega) (by omega)⟩⟩
end
/-- What has been grown by some marks, and where it lies. -/
structure OneB (bb H n : Nat) (vres : Value) (N8 : Nat) (v1 : Value) (c1 : Nat) (f1 : Value) (d1 : Nat) (W : World) : Prop where
  row : Row W N8 41 [v1, f1, .int .i64 0, .int .i64 0]
  full : Full W H W.heap.size n v1 c1 f1 d1
  gt : bb < N8
  ne : some N8 ≠ vres.ownBlock
section
variable {bb H n : Nat} {vres : Value} {N8 : Nat} {v1 f1 : Value} {c1 d1 : Nat} {W Z : World}
theorem OneB.later (h : OneB bb H n vres N8 v1 c1 f1 d1 W) (hb : Below W.heap.size W Z) : OneB bb H n vres N8 v1 c1 f1 d1 Z := ⟨h.row.later hb, (h.full.later hb).wide hb.size, h.gt, h.ne⟩
theorem OneB.ups (h : OneB bb H n vres N8 v1 c1 f1 d1 W) (hu : MkUp H 9 (mkS n) W Z) : OneB bb H n vres N8 v1 c1 f1 d1 Z := ⟨hu.row h.row (by decide), (h.full.ups hu).wide hu.size, h.gt, h.ne⟩
theorem OneB.upf (h : OneB bb H n vres N8 v1 c1 f1 d1 W) (hu : MkUp H 61 (mkF n) W Z) : OneB bb H n vres N8 v1 c1 f1 d1 Z := ⟨hu.row h.row (by decide), (h.full.upf hu).wide hu.size, h.gt, h.ne⟩
end
theorem step_append_marks {P : Program} {ops : Array Oper} {o : Oper} {a : Act} {w : World} {K : Act → World → Prop} {Q : Exit → Act → World → Prop} {X : Prop} {Bn : Nat} {f : Nat → Value}
    (hg : o.guard = none) (s x : Operand) (t : TypeId) (hop : o.op = Op.call { callee := Callee.builtin Builtin.append, args := #[s, x], argTypes := #[t, t] })
    (D : Nat) (e : TypeId) (i : TypeInfo) (z : Value) (size bytes : Nat) (h1 : P.underlying t = some (.slice e)) (h2 : P.info? e = some i) (h3 : i.zero = some z) (h4 : i.size = size) (h5 : i.bytes = bytes) (h6 : z.cells.size = size) (h7 : 0 < size)
    (v : Value) (n : Nat) (hs : a.eval s = v) (hown : w.ownsRow D e size v n ((List.range (n * size)).map f)) (hD : Bn ≤ D) (ad : Addr) (m c : Nat) (hx : a.eval x = .slice (some ad) m c) (hnews : ∀ j u, ((List.range (m * size)).map (fun j => f (n * size + j)))[j]? = some u → w.cell? (ad.add j) = some u) (hone : ∀ j, (f j).oneCell' = true)
    (b1 : n + m ≤ maxLen) (b2 : (n + m) * bytes ≤ 140737488355328) (hbase : D ≤ w.heap.size)
    (hK : ∀ v' w', w'.ownsRow D e size v' (n + m) ((List.range ((n + m) * size)).map f) → MkUp Bn e f w w' → K (a.put o.dst v') w') :
    if Region.wanted o (yielded ops a.tmps) = true then Oper.wp P o a w K Q else X := by
  have hw : Region.wanted o (yielded ops a.tmps) = true := by simp [Region.wanted, hg]
  rw [if_pos hw]
  obtain ⟨v', w', hrun, r1, r2⟩ := append_marks (P := P) (Bn := Bn) (f := f) w D t o.type i z size bytes h1 h2 h3 h4 h5 h6 h7 v n hown hD ad m c hnews hone b1 b2 hbase
  unfold Oper.wp
  simp [execOp, hop, resolve, invoke, builtin, hs, hx, hrun, Result.andThen]
  exact hK v' w' r1 r2
theorem mkS_one (n j : Nat) : (mkS n j).oneCell' = true := rfl
theorem mkF_one (n j : Nat) : (mkF n j).oneCell' = true := by unfold mkF; split; rfl; split <;> rfl
/-- The cells that are appended lie in a row. -/
theorem news_of {w : World} {b : Nat} {t : TypeId} {vs xs : List Value} (h : Row w b t vs) (e : xs = vs) : ∀ j u, xs[j]? = some u → w.cell? ((⟨b, 0, none⟩ : Addr).add j) = some u := fun j u hj => by
  subst e
  rw [addr_add0]
  exact h.cell? hj
end Go.Proofs.Ytjelacjggijmfaa
