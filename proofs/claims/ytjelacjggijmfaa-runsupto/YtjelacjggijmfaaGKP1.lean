/-
  The law's own: its owner writes a result full: where but marks are written.
  The law's own: the book of results, as its owner holds it.
  The law's own: the book as its owner holds it is the book that is looked through.
-/
import Derived.Test.YtjelacjggijmfaaGLG8
import Derived.Test.YtjelacjggijmfaaGMP1
import Derived.ArgAppend
namespace Go.Proofs.Ytjelacjggijmfaa
open Go.RowKit

/-- the n-th mark, at a place of a row of strings, of files -/
def mkS (n : Nat) : Nat → Value := fun _ => strV (markB n)
def mkF (n : Nat) : Nat → Value := fun j => if j % 3 = 0 then strV kept else if j % 3 = 1 then strV [] else .int .i64 n
/-- A step that turns but blocks from Bn on, of one type, by writing marks into them. -/
structure MkUp (Bn : Nat) (e : TypeId) (f : Nat → Value) (W W' : World) : Prop where
  os : W'.os = W.os
  tape : W'.tape = W.tape
  output : W'.output = W.output
  size : W.heap.size ≤ W'.heap.size
  block : ∀ k, k < W.heap.size → W'.heap[k]? = W.heap[k]? ∨ (Bn ≤ k ∧ ∃ cs cs', Row W k e cs ∧ Row W' k e cs' ∧ cs'.length = cs.length ∧ ∀ j, cs'[j]? = cs[j]? ∨ cs'[j]? = some (f j))
section
variable {Bn : Nat} {e : TypeId} {f : Nat → Value} {A B C : World}
theorem MkUp.refl (W : World) : MkUp Bn e f W W := ⟨rfl, rfl, rfl, Nat.le_refl _, fun _ _ => .inl rfl⟩
theorem MkUp.later {W W' : World} (h : Below W.heap.size W W') : MkUp Bn e f W W' := ⟨h.os, h.tape, h.output, h.size, fun k hk => .inl (h.block k hk)⟩
theorem MkUp.trans (h : MkUp Bn e f A B) (g : MkUp Bn e f B C) : MkUp Bn e f A C := by
  refine ⟨g.os.trans h.os, g.tape.trans h.tape, g.output.trans h.output, Nat.le_trans h.size g.size, fun k hk => ?_⟩
  rcases h.block k hk with h1 | ⟨h1, cs, cs', r1, r2, l1, c1⟩
  · rcases g.block k (Nat.lt_of_lt_of_le hk h.size) with g1 | ⟨g1, ds, ds', q1, q2, m1, d1⟩
    · exact .inl (g1.trans h1)
    · exact .inr ⟨g1, ds, ds', h1.symm.trans q1, q2, m1, d1⟩
  · rcases g.block k (Nat.lt_of_lt_of_le hk h.size) with g1 | ⟨g1, ds, ds', q1, q2, m1, d1⟩
    · exact .inr ⟨h1, cs, cs', r1, g1.trans r2, l1, c1⟩
    · have he : ds = cs' := by
        unfold Row at q1 r2
        rw [r2] at q1
        injection q1 with q1
        injection q1 with q1
        simpa using q1.symm
      subst he
      refine .inr ⟨h1, cs, ds', r1, q2, m1.trans l1, fun j => ?_⟩
      rcases d1 j with d | d
      · rw [d]; exact c1 j
      · exact .inr d
theorem MkUp.set {W : World} {k j : Nat} {cs : List Value} (hr : Row W k e cs) (hB : Bn ≤ k) : MkUp Bn e f W (W.setCell ⟨k, j, none⟩ (f j)) := by
  have hb := (Below.refl 0 W).setCell (p := ⟨k, j, none⟩) (Nat.zero_le _) (f j)
  refine ⟨hb.os, hb.tape, hb.output, hb.size, fun q hq => ?_⟩
  by_cases e' : q = k
  · subst e'
    refine .inr ⟨hB, cs, cs.set j (f j), hr, hr.set j (f j), by simp, fun i => ?_⟩
    by_cases hi : j = i
    · subst hi
      by_cases hl : j < cs.length
      · right; simp [hl]
      · left; rw [List.getElem?_eq_none (by simp; omega), List.getElem?_eq_none (by omega)]
    · left; rw [List.getElem?_set_ne hi]
  · exact .inl (Below.heap_setCell W ⟨k, j, none⟩ _ q e')
theorem MkUp.sets {k : Nat} : ∀ (vs : List Value) (o : Nat) (W : World) (cs : List Value), Row W k e cs → Bn ≤ k → (∀ j u, vs[j]? = some u → u = f (o + j)) → MkUp Bn e f W (W.setCells k o vs)
  | [], _, W, _, _, _, _ => MkUp.refl W
  | v :: r, o, W, cs, hr, hB, hv => by
    have h0 : v = f o := hv 0 v rfl
    subst h0
    have h1 : MkUp Bn e f W (W.setCell ⟨k, o, none⟩ (f o)) := MkUp.set hr hB
    exact h1.trans (MkUp.sets r (o + 1) _ _ (hr.set o (f o)) hB (fun j u hj => by
      have := hv (j + 1) u (by simpa using hj)
      rw [this]; congr 1; omega))
theorem MkUp.low (h : MkUp Bn e f A B) {k : Nat} (hk : k < A.heap.size) (hb : k < Bn) : B.heap[k]? = A.heap[k]? := by
  rcases h.block k hk with h1 | ⟨h1, _⟩
  · exact h1
  · omega
theorem MkUp.typed (h : MkUp Bn e f A B) {k : Nat} {cur : Array Value} {t : TypeId} {fz : Nat × Nat} (hk : A.heap[k]? = some (.cells cur t fz)) (ht : t ≠ e) : B.heap[k]? = A.heap[k]? := by
  rcases h.block k (Array.getElem?_eq_some_iff.1 hk).1 with h1 | ⟨_, cs, cs', r1, _⟩
  · exact h1
  · unfold Row at r1
    rw [hk] at r1
    cases r1
    exact absurd rfl ht
theorem MkUp.row (h : MkUp Bn e f A B) {k : Nat} {t : TypeId} {vs : List Value} (hr : Row A k t vs) (ht : t ≠ e) : Row B k t vs := (h.typed hr ht).trans hr
theorem MkUp.other (h : MkUp Bn e f A B) {D t size n : Nat} {v : Value} {xs : List Value} (ho : A.ownsRow D t size v n xs) (ht : t ≠ e) : B.ownsRow D t size v n xs := own_same ho (fun k hk => by
  obtain ⟨cur, fz, hc⟩ := own_type ho k hk
  exact h.typed hc ht)
/-- A row that is full of marks stays so. -/
theorem MkUp.own (h : MkUp Bn e f A B) {D size n : Nat} {v : Value} (ho : A.ownsRow D e size v n ((List.range (n * size)).map f)) : B.ownsRow D e size v n ((List.range (n * size)).map f) := by
  refine ⟨ho.1, ?_⟩
  rcases ho.2 with h1 | ⟨g, cap, cur, rfl, h2, h3, h4, h5, h6, h7⟩
  · exact .inl h1
  · right
    rcases h.block g (Array.getElem?_eq_some_iff.1 h3).1 with k1 | ⟨_, cs, cs', r1, r2, l1, c1⟩
    · exact ⟨g, cap, cur, rfl, h2, k1.trans h3, h4, h5, h6, h7⟩
    · have hcs : cs = cur.toList := by
        unfold Row at r1
        rw [h3] at r1
        injection r1 with r1
        injection r1 with r1
        simp [r1]
      subst hcs
      refine ⟨g, cap, cs'.toArray, rfl, h2, r2, h4, h5, by simp [l1, h6], ?_⟩
      simp only
      have hle : n * size ≤ cur.size := by rw [h6]; exact Nat.mul_le_mul_right _ h4
      apply List.ext_getElem?
      intro j
      by_cases hj : j < n * size
      · have hm : ((List.range (n * size)).map f)[j]? = some (f j) := by simp [hj]
        rw [List.getElem?_take_of_lt hj, hm]
        rcases c1 j with c | c
        · rw [c]
          have h8 : (cur.toList.take (n * size))[j]? = some (f j) := by rw [h7]; exact hm
          rw [List.getElem?_take_of_lt hj] at h8
          exact h8
        · exact c
      · rw [List.getElem?_eq_none (by simp; omega), List.getElem?_eq_none (by simp; omega)]
theorem MkUp.ofGrown {W W' : World} (h : W.grownBy W' none) : MkUp Bn e f W W' := ⟨h.os, h.tape, h.output, h.size, fun k hk => .inl (h.block k hk (by simp))⟩
/-- Marks behind marks: a new row that is full of them, or the old one that is longer; all other rows of marks stay. -/
theorem append_marks {P : Program} (w : World) (D : Nat) (t ty : TypeId) (i : TypeInfo) (z : Value) (size bytes : Nat) (ht : P.underlying t = some (.slice e)) (hi : P.info? e = some i) (hz : i.zero = some z) (hsize : i.size = size) (hby : i.bytes = bytes) (hzs : z.cells.size = size) (hsz : 0 < size)
    (v : Value) (n : Nat) (hown : w.ownsRow D e size v n ((List.range (n * size)).map f)) (hD : Bn ≤ D) (ad : Addr) (m c : Nat) (hnews : ∀ j u, ((List.range (m * size)).map (fun j => f (n * size + j)))[j]? = some u → w.cell? (ad.add j) = some u) (h1 : ∀ j, (f j).oneCell' = true)
    (h63 : n + m ≤ maxLen) (hbytes : (n + m) * bytes ≤ 140737488355328) (hbase : D ≤ w.heap.size) :
    ∃ v' w', (Builtin.append_ #[t, t] ty #[v, .slice (some ad) m c]).run P w = .ok v' w' ∧ w'.ownsRow D e size v' (n + m) ((List.range ((n + m) * size)).map f) ∧ MkUp Bn e f w w' := by
  have hlen : ((List.range (m * size)).map (fun j => f (n * size + j))).length = m * size := by simp
  have hone : ∀ u ∈ (List.range (m * size)).map (fun j => f (n * size + j)), u.oneCell' = true := fun u hu => by
    obtain ⟨j, _, rfl⟩ := List.mem_map.1 hu
    exact h1 _
  obtain ⟨v', w', hrun, r1, r2, _⟩ := run_append_own (P := P) w D t ty e i z size bytes ht hi hz hsize hby hzs hsz v n _ hown ad m c _ hlen hnews hone h63 hbytes hbase
  have hlist : (List.range (n * size)).map f ++ (List.range (m * size)).map (fun j => f (n * size + j)) = (List.range ((n + m) * size)).map f := by
    rw [Nat.add_mul, List.range_add, List.map_append, List.map_map]
    rfl
  rw [hlist] at r1
  refine ⟨v', w', hrun, r1, ?_⟩
  rcases hown.2 with ⟨rfl, hn⟩ | ⟨g, cap, cur, rfl, q2, q3, q4, q5, q6, q7⟩
  · exact MkUp.ofGrown r2
  · by_cases hr : n + m ≤ cap
    · have hrow : Row w g e cur.toList := by unfold Row; simpa using q3
      have hin : ∀ j, j < ((List.range (m * size)).map (fun j => f (n * size + j))).length → 0 + n * i.size + j < cur.toList.length := fun j hj => by
        rw [hlen] at hj
        have : (n + m) * size ≤ cap * size := Nat.mul_le_mul_right _ hr
        rw [Nat.add_mul] at this
        simp only [Array.length_toList, q6, hsize]
        omega
      have hroom := run_append_room_cells (P := P) w t ty e i ht hi g 0 n cap ad m c _ (by rw [hsize]; exact hlen) hnews hone hr (fun j hj => by rw [hrow.cell _ (hin j hj)]; rfl) (fun j hj => hrow.frozen _)
      rw [hrun] at hroom
      injection hroom with e1 e2
      subst e2
      refine MkUp.sets _ _ w _ hrow (by omega) (fun j u hj => ?_)
      obtain ⟨hj1, rfl⟩ := List.getElem?_eq_some_iff.1 hj
      simp [hsize]
    · obtain ⟨v2, w2, hrun2, _, g2⟩ := run_append_arg_grows (P := P) w t ty e i z size bytes ht hi hz hsize hby hzs hsz ⟨g, 0, none⟩ n cap _ hown.1 (fun j u hj => by
        obtain ⟨hj1, rfl⟩ := List.getElem?_eq_some_iff.1 hj
        rw [addr_add0]
        have hrow : Row w g e cur.toList := by unfold Row; simpa using q3
        have hjl : j < n * size := by simpa using hj1
        refine hrow.cell? ?_
        have h8 : (cur.toList.take (n * size))[j]? = some ((List.range (n * size)).map f)[j] := by rw [q7]; exact hj
        rw [List.getElem?_take_of_lt hjl] at h8
        exact h8) ad m c _ hlen hnews (by omega) h63 hbytes
      rw [hrun] at hrun2
      injection hrun2 with e1 e2
      subst e2
      exact MkUp.ofGrown g2
end
end Go.Proofs.Ytjelacjggijmfaa
namespace Go.Proofs.Ytjelacjggijmfaa
open Go.RowKit

def marksS (n k : Nat) : List Value := (List.range (k * 1)).map (mkS n)
def marksF (n k : Nat) : List Value := (List.range (k * 3)).map (mkF n)
/-- Four values: a result that is full of the n-th mark; its rows lie from D on, below E. -/
structure Full (W : World) (D E n : Nat) (vc : Value) (nc : Nat) (vr : Value) (nf : Nat) : Prop where
  cm : W.ownsRow D 9 1 vc nc (marksS n nc)
  fi : W.ownsRow D 61 3 vr nf (marksF n nf)
  lc : ∀ k, vc.ownBlock = some k → k < E
  lf : ∀ k, vr.ownBlock = some k → k < E
  hc : nc ≤ 2097152
  hf : nf ≤ 2097152
section
variable {W Z : World} {D E E' n m Bn : Nat} {vc vr : Value} {nc nf : Nat}
theorem Full.later (h : Full W D E n vc nc vr nf) (hb : Below W.heap.size W Z) : Full Z D E n vc nc vr nf := ⟨own_same h.cm (fun k hk => hb.block k (h.cm.lt k hk).2), own_same h.fi (fun k hk => hb.block k (h.fi.lt k hk).2), h.lc, h.lf, h.hc, h.hf⟩
theorem Full.low (h : Full W D E n vc nc vr nf) (hk : ∀ k, k < E → k < W.heap.size → Z.heap[k]? = W.heap[k]?) : Full Z D E n vc nc vr nf := ⟨own_same h.cm (fun k q => hk k (h.lc k q) (h.cm.lt k q).2), own_same h.fi (fun k q => hk k (h.lf k q) (h.fi.lt k q).2), h.lc, h.lf, h.hc, h.hf⟩
theorem Full.ups (h : Full W D E n vc nc vr nf) (hu : MkUp Bn 9 (mkS n) W Z) : Full Z D E n vc nc vr nf := ⟨hu.own h.cm, hu.other h.fi (by decide), h.lc, h.lf, h.hc, h.hf⟩
theorem Full.upf (h : Full W D E n vc nc vr nf) (hu : MkUp Bn 61 (mkF n) W Z) : Full Z D E n vc nc vr nf := ⟨hu.other h.cm (by decide), hu.own h.fi, h.lc, h.lf, h.hc, h.hf⟩
theorem Full.wide (h : Full W D E n vc nc vr nf) (hE : E ≤ E') : Full W D E' n vc nc vr nf := ⟨h.cm, h.fi, fun k e => Nat.lt_of_lt_of_le (h.lc k e) hE, fun k e => Nat.lt_of_lt_of_le (h.lf k e) hE, h.hc, h.hf⟩
theorem Full.kept (h : Full W D E n vc nc vr nf) {r : Option Nat} (hg : W.grownBy Z r) (hr : ∀ k, r = some k → ∃ cur t fz, W.heap[k]? = some (Obj.cells cur t fz) ∧ t ≠ 9 ∧ t ≠ 61) : Full Z D E n vc nc vr nf := by
  refine ⟨own_same h.cm (fun k hk => hg.block k (h.cm.lt k hk).2 (fun e => ?_)), own_same h.fi (fun k hk => hg.block k (h.fi.lt k hk).2 (fun e => ?_)), h.lc, h.lf, h.hc, h.hf⟩
  · obtain ⟨cur, t, fz, hc, t1, _⟩ := hr k e.symm
    obtain ⟨cur', fz', hc'⟩ := own_type h.cm k hk
    rw [hc] at hc'; cases hc'; exact t1 rfl
  · obtain ⟨cur, t, fz, hc, _, t2⟩ := hr k e.symm
    obtain ⟨cur', fz', hc'⟩ := own_type h.fi k hk
    rw [hc] at hc'; cases hc'; exact t2 rfl
end
/-- Four values in a list of such. -/
def FullAt (W : World) (D E n : Nat) (cs : List Value) (k : Nat) : Prop := ∃ vc nc vr nf ex ck, (cs.drop (4 * k)).take 4 = [vc, vr, .int .i64 ex, .int .i64 ck] ∧ Full W D E n vc nc vr nf
/-- The book with n results, of which m have been kept grown too; E tells below which block the rows of a result lie. -/
structure BookO (W : World) (bb : Nat) (E : Nat → Nat) (n m : Nat) (vres vgr : Value) : Prop where
  row : Row W bb 38 [vres, vgr]
  res : ∃ cs, W.ownsRow (bb + 1) 41 4 vres n cs ∧ ∀ i, i < n → FullAt W (bb + 1) (E i) i cs i
  gr : ∃ gs, W.ownsRow (bb + 1) 35 1 vgr m gs ∧ ∀ i, i < m → ∃ g ci cs, gs[i]? = some (.slice (some ⟨g, 0, none⟩) 3 ci) ∧ bb < g ∧ Row W g 41 cs ∧ cs.length = 12 ∧ some g ≠ vres.ownBlock ∧ ∀ k, k < 3 → FullAt W (bb + 1) (E i) i cs k
section
variable {W Z : World} {bb n m Bn j : Nat} {E E' : Nat → Nat} {vres vgr : Value}
theorem FullAt.map {D k i e e' : Nat} {cs : List Value} (h : FullAt W D e i cs k) (hm : ∀ vc nc vr nf, Full W D e i vc nc vr nf → Full Z D e' i vc nc vr nf) : FullAt Z D e' i cs k := by
  obtain ⟨vc, nc, vr, nf, ex, ck, h1, h2⟩ := h
  exact ⟨vc, nc, vr, nf, ex, ck, h1, hm _ _ _ _ h2⟩
/-- The book stays where its blocks do, and the rows of its results. -/
theorem BookO.map (h : BookO W bb E n m vres vgr) (hbl : ∀ (k : Nat) (cur : Array Value) (t : TypeId) (fz : Nat × Nat), W.heap[k]? = some (Obj.cells cur t fz) → t = 38 ∨ t = 41 ∨ t = 35 → Z.heap[k]? = W.heap[k]?)
    (hm : ∀ i vc nc vr nf, i < n ∨ i < m → Full W (bb + 1) (E i) i vc nc vr nf → Full Z (bb + 1) (E' i) i vc nc vr nf) : BookO Z bb E' n m vres vgr := by
  obtain ⟨cs, h1, h2⟩ := h.res
  obtain ⟨gs, g1, g2⟩ := h.gr
  refine ⟨(hbl bb _ _ _ h.row (.inl rfl)).trans h.row, ⟨cs, own_same h1 (fun k hk => ?_), fun i hi => (h2 i hi).map (fun _ _ _ _ => hm i _ _ _ _ (.inl hi))⟩, ⟨gs, own_same g1 (fun k hk => ?_), fun i hi => ?_⟩⟩
  · obtain ⟨cur, fz, hc⟩ := own_type h1 k hk
    exact hbl k cur _ fz hc (.inr (.inl rfl))
  · obtain ⟨cur, fz, hc⟩ := own_type g1 k hk
    exact hbl k cur _ fz hc (.inr (.inr rfl))
  · obtain ⟨g, ci, ds, q1, q2, q3, q4, q5, q6⟩ := g2 i hi
    exact ⟨g, ci, ds, q1, q2, (hbl g _ _ _ q3 (.inr (.inl rfl))).trans q3, q4, q5, fun k hk => (q6 k hk).map (fun _ _ _ _ => hm i _ _ _ _ (.inr hi))⟩
theorem BookO.later (h : BookO W bb E n m vres vgr) (hb : Below W.heap.size W Z) : BookO Z bb E n m vres vgr := h.map (fun k _ _ _ hc _ => hb.block k (Array.getElem?_eq_some_iff.1 hc).1) (fun _ _ _ _ _ _ h => h.later hb)
theorem BookO.wide (h : BookO W bb E n m vres vgr) (hE : ∀ i, i < n ∨ i < m → E i ≤ E' i) : BookO W bb E' n m vres vgr := h.map (fun _ _ _ _ _ _ => rfl) (fun i _ _ _ _ hi h => h.wide (hE i hi))
theorem BookO.ups {n0 : Nat} (h : BookO W bb E n m vres vgr) (hu : MkUp Bn 9 (mkS n0) W Z) (hE : ∀ i, i < n ∨ i < m → E i ≤ Bn ∨ i = n0) : BookO Z bb E n m vres vgr := by
  refine h.map (fun k cur t fz hc ht => hu.typed hc (by rcases ht with rfl | rfl | rfl <;> decide)) (fun i _ _ _ _ hi h => ?_)
  rcases hE i hi with e | rfl
  · exact h.low (fun k hk hk2 => hu.low hk2 (by omega))
  · exact h.ups hu
theorem BookO.upf {n0 : Nat} (h : BookO W bb E n m vres vgr) (hu : MkUp Bn 61 (mkF n0) W Z) (hE : ∀ i, i < n ∨ i < m → E i ≤ Bn ∨ i = n0) : BookO Z bb E n m vres vgr := by
  refine h.map (fun k cur t fz hc ht => hu.typed hc (by rcases ht with rfl | rfl | rfl <;> decide)) (fun i _ _ _ _ hi h => ?_)
  rcases hE i hi with e | rfl
  · exact h.low (fun k hk hk2 => hu.low hk2 (by omega))
  · exact h.upf hu
/-- A result more. -/
theorem BookO.push {vres' vc vr : Value} {nc nf : Nat} {ex ck : Int} (h : BookO W bb E n n vres vgr) (cs : List Value) (hcs : W.ownsRow (bb + 1) 41 4 vres n cs) (hall : ∀ i, i < n → FullAt W (bb + 1) (E i) i cs i) (hg : W.grownBy Z vres.ownBlock) (hs : Z.ownsRow (bb + 1) 41 4 vres' (n + 1) (cs ++ [vc, vr, .int .i64 ex, .int .i64 ck]))
    (hf : Fresh W vres vres') (hfull : Full W (bb + 1) (E n) n vc nc vr nf) : BookO (Z.setCell ⟨bb, 0, none⟩ vres') bb E (n + 1) n vres' vgr := by
  obtain ⟨gs, g1, g2⟩ := h.gr
  have hbb := h.row.lt
  have hty : ∀ k, vres.ownBlock = some k → ∃ cur t fz, W.heap[k]? = some (Obj.cells cur t fz) ∧ t ≠ 9 ∧ t ≠ 61 := fun k e => by
    obtain ⟨cur, fz, hc⟩ := own_type hcs k e
    exact ⟨cur, _, fz, hc, by decide, by decide⟩
  have hlow : ∀ k, k ≤ bb → Z.heap[k]? = W.heap[k]? := fun k hk => hg.block k (by omega) (fun e => by have := (hcs.lt k e.symm).1; omega)
  have hrow : Row Z bb 38 [vres, vgr] := (hlow bb (Nat.le_refl _)).trans h.row
  have hset : ∀ k, k ≠ bb → (Z.setCell ⟨bb, 0, none⟩ vres').heap[k]? = Z.heap[k]? := fun k hk => Below.heap_setCell Z ⟨bb, 0, none⟩ _ k hk
  have hF : ∀ i vc nc vr nf, Full W (bb + 1) (E i) i vc nc vr nf → Full (Z.setCell ⟨bb, 0, none⟩ vres') (bb + 1) (E i) i vc nc vr nf := fun i vc nc vr nf hx => by
    have h1 := hx.kept hg hty
    exact ⟨owns_other h1.cm (own_ne h1.cm (by omega)) _ _, owns_other h1.fi (own_ne h1.fi (by omega)) _ _, h1.lc, h1.lf, h1.hc, h1.hf⟩
  have hl : cs.length = n * 4 := hcs.1
  refine ⟨hrow.set 0 vres', ⟨_, owns_other hs (own_ne hs (by omega)) _ _, fun i hi => ?_⟩, ⟨gs, ?_, fun i hi => ?_⟩⟩
  · by_cases hin : i < n
    · obtain ⟨vc', nc', vr', nf', ex', ck', q1, q2⟩ := hall i hin
      refine ⟨vc', nc', vr', nf', ex', ck', ?_, hF _ _ _ _ _ q2⟩
      rw [List.drop_append_of_le_length (by omega), List.take_append_of_le_length (by simp; omega), q1]
    · have : i = n := by omega
      subst this
      refine ⟨vc, nc, vr, nf, ex, ck, ?_, hF _ _ _ _ _ hfull⟩
      rw [List.drop_append, List.drop_eq_nil_of_le (by omega), show 4 * i - cs.length = 0 by omega]
      simp
  · have : Z.ownsRow (bb + 1) 35 1 vgr n gs := by
      rcases apart g1 hcs (by decide) with e | e
      · exact World.ownsRow.kept g1 hg (.inl e)
      · exact World.ownsRow.kept g1 hg (.inr e)
    exact owns_other this (own_ne this (by omega)) _ _
  · obtain ⟨g, ci, ds, q1, q2, q3, q4, q5, q6⟩ := g2 i hi
    refine ⟨g, ci, ds, q1, q2, (hset g (by omega)).trans ((hg.block g q3.lt q5).trans q3), q4, fun e => ?_, fun k hk => (q6 k hk).map (fun _ _ _ _ => hF i _ _ _ _)⟩
    rcases hf g e.symm with e' | e'
    · exact q5 e'.symm
    · have := q3.lt; omega
end
end Go.Proofs.Ytjelacjggijmfaa
namespace Go.Proofs.Ytjelacjggijmfaa
open Go.RowKit

theorem Full.slS {W : World} {D E n nc nf : Nat} {a1 : Option Addr} {k1 : Nat} {vr : Value} (h : Full W D E n (.slice a1 nc k1) nc vr nf) : SlS W a1 (List.replicate nc (markB n)) := by
  rcases h.cm.2 with ⟨h1, h2⟩ | ⟨g, cap, cur, h1, h2, h3, h4, h5, h6, h7⟩
  · subst h2
    exact ⟨0, 0, fun hp => by simp at hp, fun i hi => by simp at hi⟩
  · cases h1
    refine ⟨g, 0, fun _ => ⟨rfl, (Array.getElem?_eq_some_iff.1 h3).1⟩, fun i hi => ?_⟩
    have hin : i < nc := by simpa using hi
    have hc := own_cell h.cm i (by unfold marksS; simp; exact hin)
    rw [Nat.zero_add, hc]
    unfold marksS mkS
    simp
theorem Full.slF {W : World} {D E n nc nf : Nat} {a2 : Option Addr} {k2 : Nat} {vc : Value} (h : Full W D E n vc nc (.slice a2 nf k2) nf) : SlF W a2 (List.replicate nf (keptF n)) := by
  rcases h.fi.2 with ⟨h1, h2⟩ | ⟨g, cap, cur, h1, h2, h3, h4, h5, h6, h7⟩
  · subst h2
    exact ⟨0, 0, fun hp => by simp at hp, fun i hi => by simp at hi⟩
  · cases h1
    have hrow : Row W g 61 cur.toList := by unfold Row; simpa using h3
    have hat : ∀ j, j < nf * 3 → W.cell? ⟨g, j, none⟩ = some (mkF n j) := fun j hj => by
      refine hrow.cell? ?_
      have h8 : (cur.toList.take (nf * 3))[j]? = some (mkF n j) := by rw [h7]; unfold marksF; simp [hj]
      rw [List.getElem?_take_of_lt hj] at h8
      exact h8
    refine ⟨g, 0, fun _ => ⟨rfl, (Array.getElem?_eq_some_iff.1 h3).1⟩, fun i hi => ?_⟩
    have hin : i < nf := by simpa using hi
    have e : (List.replicate nf (keptF n))[i] = keptF n := by simp
    rw [e]
    refine ⟨?_, ?_, ?_⟩
    · rw [show 0 + i * 3 = i * 3 by omega, hat _ (by omega)]; unfold mkF; rw [if_pos (by omega)]; rfl
    · rw [show 0 + i * 3 + 1 = i * 3 + 1 by omega, hat _ (by omega)]; unfold mkF; rw [if_neg (by omega), if_pos (by omega)]; rfl
    · rw [show 0 + i * 3 + 2 = i * 3 + 2 by omega, hat _ (by omega)]; unfold mkF; rw [if_neg (by omega), if_neg (by omega)]; rfl
theorem four_get {cs : List Value} {k : Nat} {v0 v1 v2 v3 : Value} (h : (cs.drop (4 * k)).take 4 = [v0, v1, v2, v3]) : cs[k * 4]? = some v0 ∧ cs[k * 4 + 1]? = some v1 ∧ cs[k * 4 + 2]? = some v2 ∧ cs[k * 4 + 3]? = some v3 := by
  have hj : ∀ j, j < 4 → cs[k * 4 + j]? = [v0, v1, v2, v3][j]? := fun j hj => by
    rw [← h, List.getElem?_take_of_lt hj, List.getElem?_drop]
    congr 1
    omega
  exact ⟨hj 0 (by omega), hj 1 (by omega), hj 2 (by omega), hj 3 (by omega)⟩
theorem FullAt.res {W : World} {D e n k b : Nat} {cs : List Value} (h : FullAt W D e n cs k) (hb : b < W.heap.size) (hc : ∀ j u, cs[j]? = some u → W.cell? ⟨b, j, none⟩ = some u) : ResAt W b (k * 4) n := by
  obtain ⟨vc, nc, vr, nf, ex, ck, h1, h2⟩ := h
  obtain ⟨a1, k1, rfl⟩ := own_shape h2.cm
  obtain ⟨a2, k2, rfl⟩ := own_shape h2.fi
  obtain ⟨c0, c1, c2, c3⟩ := four_get h1
  exact ⟨hb, a1, nc, k1, a2, nf, k2, ex, ck, hc _ _ c0, hc _ _ c1, hc _ _ c2, hc _ _ c3, h2.slS, h2.slF, h2.hc, h2.hf⟩
theorem BookO.bookM {W : World} {bb n : Nat} {E : Nat → Nat} {vres vgr : Value} (h : BookO W bb E n n vres vgr) : BookM W bb n := by
  obtain ⟨cs, h1, h2⟩ := h.res
  obtain ⟨gs, g1, g2⟩ := h.gr
  obtain ⟨ar, cr, rfl⟩ := own_shape h1
  obtain ⟨ag, cg, rfl⟩ := own_shape g1
  have c0 := h.row.cell? (i := 0) rfl
  have c1 := h.row.cell? (i := 1) rfl
  by_cases hn : n = 0
  · subst hn
    exact ⟨h.row.lt, ar, cr, 0, ag, cg, 0, c0, c1, fun hp => by omega, fun hp => by omega, fun i hi => by omega⟩
  · obtain ⟨br, cr', e1, -, hbr⟩ := owns_form h1 (by omega)
    cases e1
    obtain ⟨bg, cg', e2, -, hbg⟩ := owns_form g1 (by omega)
    cases e2
    have hcs : ∀ j u, cs[j]? = some u → W.cell? ⟨br, j, none⟩ = some u := fun j u hj => by
      rcases h1.2 with ⟨q, _⟩ | ⟨g', cap', cur, q1, _, q3, _, _, _, q7⟩
      · cases q
      · cases q1
        have hrow : Row W br 41 cur.toList := by unfold Row; simpa using q3
        refine hrow.cell? ?_
        rw [← q7] at hj
        rw [List.getElem?_take] at hj
        split at hj
        · exact hj
        · cases hj
    refine ⟨h.row.lt, _, _, br, _, _, bg, c0, c1, fun _ => rfl, fun _ => ⟨rfl, hbg⟩, fun i hi => ⟨(h2 i hi).res hbr hcs, ?_⟩⟩
    obtain ⟨g, ci, ds, q1, q2, q3, q4, q5, q6⟩ := g2 i hi
    obtain ⟨hil, he⟩ := List.getElem?_eq_some_iff.1 q1
    refine ⟨g, ci, by rw [← he]; exact own_cell g1 i hil, fun k hk => (q6 k hk).res q3.lt (fun j u hj => q3.cell? hj)⟩
end Go.Proofs.Ytjelacjggijmfaa
