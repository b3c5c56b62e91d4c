/-
  What making a plan of rules comes to is one thing alone.
  compile.stepsOf behind goals.Order, and what is left to do then.
  compile.Text: rules that cannot be read.
  compile.write behind compile.stepsOf.
  A walk that ends well leaves a node; what making a plan of rules comes to.
  The steps that are made of nodes: how much they are.
-/
import Derived.Test.YtjelacjggijmfaaGreatDoorVGF9
import Derived.Test.YtjelacjggijmfaaGreatDoorVWRC
namespace Go.Proofs.YtjelacjggijmfaaGreatDoor
open Go.RowKit Go.MapKept Go.ChangeMaps Go.Maps

theorem strsW_le (P : Nat) (xs : List Pl.Bs) (h : ∀ x ∈ xs, x.length ≤ P) : (strsW xs).length ≤ xs.length * (P + 2) := by
  induction xs with
  | nil => simp [strsW]
  | cons x r ih =>
    have ih' := ih (fun y hy => h y (List.mem_cons_of_mem _ hy))
    have h1 := h x (List.mem_cons_self ..)
    unfold strsW at *
    rw [List.flatMap_cons, List.length_append, List.length_cons, Nat.succ_mul]
    simp [beB_len x.length 2 (Nat.le_refl 2)] at *
    omega
theorem give_size {N : Pl.Bs → Cp.Nv} {sg : UInt8 → Option Pl.Bs} : ∀ (cs : List (Pl.Bs × Nat)) (k : Nat) (acc : List Pl.Bs) (k' : Nat) (out : List Pl.Bs), GiveR N sg cs k acc (.inr (k', out)) → acc.length ≤ k → acc.length ≤ 500 → (∀ c ∈ acc, c.length ≤ 2000) → out.length ≤ 500 ∧ ∀ c ∈ out, c.length ≤ 2000
  | [], k, acc, k', out, h, _, h2, h3 => by
    have e : (Sum.inr (k', out) : (Nat × Nat) ⊕ (Nat × List Pl.Bs)) = .inr (k, acc) := h
    cases e
    exact ⟨h2, h3⟩
  | c :: rest, k, acc, k', out, ⟨r, h1, h⟩, q1, q2, q3 => by
    split at h
    · cases h
    · split at h
      · exact give_size rest k acc k' out h q1 q2 q3
      · split at h
        · refine give_size rest (k + 1) _ k' out h ?_ ?_ (fun d hd => ?_)
          · rw [List.length_append, List.length_cons, List.length_nil]; omega
          · rw [List.length_append, List.length_cons, List.length_nil]; omega
          · rcases List.mem_append.1 hd with e | e
            · exact q3 d e
            · rw [List.mem_singleton] at e
              rw [e]; obtain ⟨f, hf⟩ := h1; exact expF_len f _ _ _ _ _ hf
        · exact give_size rest (k + 1) acc k' out h (by omega) q2 q3
/-- What a step is like. -/
structure StB (P : Nat) (x : Stp) : Prop where
  name : x.name.length ≤ P
  needs : x.needs.length ≤ 100
  nw : ∀ n ∈ x.needs, n.length ≤ P
  cmds : x.cmds.length ≤ 500
  cw : ∀ c ∈ x.cmds, c.length ≤ 2000
theorem steps_size {N : Pl.Bs → Cp.Nv} {P : Nat} : ∀ (nodes : List Nod) (k : Nat) (acc : List Stp) (k' : Nat) (ss : List Stp), StepsR N nodes k acc (.inr (k', ss)) → (∀ x ∈ nodes, x.name.length ≤ P ∧ x.needs.length ≤ 100 ∧ ∀ n ∈ x.needs, n.length ≤ P) → (∀ x ∈ acc, StB P x) → ss.length = acc.length + nodes.length ∧ ∀ x ∈ ss, StB P x
  | [], k, acc, k', ss, h, _, h2 => by
    have e : (Sum.inr (k', ss) : (Nat × Nat) ⊕ (Nat × List Stp)) = .inr (k, acc) := h
    cases e
    exact ⟨rfl, h2⟩
  | x :: rest, k, acc, k', ss, ⟨G, h1, h⟩, hn, h2 => by
    cases G with
    | inl e => cases h
    | inr p =>
      obtain ⟨k1, cs⟩ := p
      obtain ⟨a1, a2⟩ := give_size _ _ _ _ _ h1 (Nat.zero_le _) (Nat.zero_le _) (fun c hc => (by cases hc))
      obtain ⟨b1, b2, b3⟩ := hn x (List.mem_cons_self ..)
      obtain ⟨e1, e2⟩ := steps_size rest k1 _ k' ss h (fun y hy => hn y (List.mem_cons_of_mem _ hy)) (fun y hy => by
        rcases List.mem_append.1 hy with e | e
        · exact h2 y e
        · rw [List.mem_singleton] at e
          rw [e]; exact ⟨b1, b2, b3, a1, a2⟩)
      refine ⟨?_, e2⟩
      rw [e1, List.length_append, List.length_cons, List.length_cons, List.length_nil]; omega
theorem szs_le {P : Nat} : ∀ ss : List Stp, (∀ x ∈ ss, StB P x) → szs ss ≤ ss.length * (P + 100 * (P + 2) + 1001002)
  | [], _ => by simp [szs]
  | x :: r, h => by
    have ih := szs_le r (fun y hy => h y (List.mem_cons_of_mem _ hy))
    have hx := h x (List.mem_cons_self ..)
    have a1 := strsW_le P x.needs hx.nw
    have a2 := strsW_le 2000 x.cmds hx.cw
    have a3 := Nat.mul_le_mul_right (P + 2) hx.needs
    have a4 := Nat.mul_le_mul_right (2000 + 2) hx.cmds
    have a5 := hx.name
    have e : szs (x :: r) = x.sz + szs r := by simp [szs]
    rw [e, List.length_cons, Nat.succ_mul]
    unfold Stp.sz
    omega
end Go.Proofs.YtjelacjggijmfaaGreatDoor
namespace Go.Proofs.YtjelacjggijmfaaGreatDoor
open Go.RowKit Go.MapKept Go.ChangeMaps Go.Maps

section
variable {s : St} {fs : List Pl.File} {us : List (Nat × List Pl.Bs)}
theorem enter_ne {t : Wst} {name : Pl.Bs} (h : t.opn ≠ [] ∨ t.over ≠ []) : (enterF s fs us t name).2.opn ≠ [] ∨ (enterF s fs us t name).2.over ≠ [] := by
  unfold enterF
  split
  · exact h
  · split
    · exact h
    · split
      · exact h
      · exact .inl (by simp)
theorem goOn_ne {t : Wst} {x : Nod × Nat} (hl : t.opn.getLast? = some x) : (goOnF s fs us t).2.opn ≠ [] ∨ (goOnF s fs us t).2.over ≠ [] := by
  unfold goOnF
  rw [hl]
  simp only
  split
  · unfold leaveF
    rw [hl]
    refine .inr ?_
    simp only
    split
    · simp
    · rename_i q
      exact fun e => q (by rw [e]; exact Nat.zero_le _)
  · exact enter_ne (.inl (by simp))
/-- The goal itself is over. -/
theorem over_ne {g : Pl.Bs} {r : Nat × Wst} (h : FromR s fs us (enterF s fs us wst0 g) r) (h0 : r.1 = 0) : 0 < r.2.over.length := by
  have hn := (walk_ov h h0).2
  obtain ⟨n, hf⟩ := h
  have := fromF_keep (fun t => t.opn ≠ [] ∨ t.over ≠ []) (fun t x _ hl _ => goOn_ne hl) n _ r hf (fun e => by
    unfold enterF at e ⊢
    have z2 : ¬ flagOf wst0.sts g = 2 := fun q => (by cases q)
    have z1 : ¬ flagOf wst0.sts g = 1 := fun q => (by cases q)
    rw [if_neg z2, if_neg z1] at e ⊢
    split at e
    · cases e
    · rename_i q
      rw [if_neg q]
      exact .inl (by simp)) h0
  rcases this with q | q
  · exact absurd hn q
  · exact List.length_pos_iff.2 q
end
/-- What compile.Text comes to: the plan, or an error and its line. -/
def StepsT (ss : (Nat × Nat) ⊕ (Nat × List Stp)) (r : Pl.Bs × Nat × Nat) : Prop := match ss with
  | .inl (er, ln) => r = ([], er, ln)
  | .inr (k, ss) => (500 < k ∧ r = ([], 5, 0)) ∨ (k ≤ 500 ∧ r = match planW ss with
    | none => ([], 5, 0)
    | some p => (p, 0, 0))
def OrderT (s : St) (fs : List Pl.File) (g : Pl.Bs) (r : Pl.Bs × Nat × Nat) : Prop :=
  (g = [] ∧ r = ([], 8, 0)) ∨ (g ≠ [] ∧ 2000 < g.length ∧ r = ([], 5, 0)) ∨
    (g ≠ [] ∧ g.length ≤ 2000 ∧ ∃ q, FromR s fs (usL s fs s.pats) (enterF s fs (usL s fs s.pats) wst0 g) q ∧
      ((q.1 ≠ 0 ∧ r = ([], q.1, 0)) ∨ (q.1 = 0 ∧ 100 < q.2.over.length ∧ r = ([], 5, 0)) ∨
        (q.1 = 0 ∧ q.2.over.length ≤ 100 ∧ ∃ R, StepsR (nOf s.names) q.2.over 0 [] R ∧ StepsT R r)))
def TextR (fs : List Pl.File) (path goal : Pl.Bs) (r : Pl.Bs × Nat × Nat) : Prop :=
  ((bookF fs path).1 ≠ 0 ∧ r = ([], (bookF fs path).1, (bookF fs path).2.1)) ∨
    ((bookF fs path).1 = 0 ∧ OrderT (bookF fs path).2.2 fs (goalF (bookF fs path).2.2 goal) r)
end Go.Proofs.YtjelacjggijmfaaGreatDoor
namespace Go.Proofs.YtjelacjggijmfaaGreatDoor
open Go.RowKit Go.MapKept Go.ChangeMaps Go.Maps

theorem write_behind {W : World} {L P : Nat} {sv : Value} {ss : List Stp} {c : List Value} (h : W.ownsRow L 206 6 sv ss.length c) (hs : StC W L ss c) (hLW : L ≤ W.heap.size) (hb : ∀ x ∈ ss, StB P x) (hP : P ≤ 80000) (h0 : 0 < ss.length) (hl : ss.length ≤ 100) :
    Calls Tryz.prog 67 #[sv] W fun e W' => e = .returned (textV (planW ss)) ∧ Below W.heap.size W W' := by
  have hz := szs_le ss hb
  have hm := Nat.mul_le_mul_right (P + 100 * (P + 2) + 1001002) hl
  rcases h.2 with ⟨_, h2⟩ | ⟨g, cap, cur, h1, _, h3, -⟩
  · omega
  · have h' := h
    rw [h1] at h'
    rw [h1]
    refine write_any ss (some ⟨g, 0, none⟩) cap g 0 W (fun _ => rfl) (heap_lt h3) (fun i hi => ?_) h0 (by omega) (fun x hx => ⟨Nat.le_trans (hb x hx).needs (by decide), Nat.le_trans (hb x hx).cmds (by decide)⟩) (by omega)
    obtain ⟨a, q1, q2⟩ := StC.at ss c hs i hi
    obtain ⟨an, ac, am, cn, cc, nb, no, cb, co, nm, cm, rfl, p2, p3⟩ := q1
    refine ⟨an, ac, am, cn, cc, nb, no, cb, co, nm, cm, fun j u hj => ?_, fun q => ?_, fun q => ?_⟩
    · have hj6 : j < 6 := by
        rcases Nat.lt_or_ge j 6 with q | q
        · exact q
        · rw [List.getElem?_eq_none (by show 6 ≤ j; exact q)] at hj; cases hj
      rw [Nat.zero_add]
      exact own_cell2 h' (i * 6 + j) u ((q2 j hj6).trans hj)
    · obtain ⟨e1, e2, e3⟩ := p2 q
      exact ⟨e1, Nat.lt_of_lt_of_le e2 hLW, e3⟩
    · obtain ⟨e1, e2, _, e4⟩ := p3 q
      exact ⟨e1, e2, e4⟩
end Go.Proofs.YtjelacjggijmfaaGreatDoor
namespace Go.Proofs.YtjelacjggijmfaaGreatDoor
open Go.RowKit Go.MapKept Go.ChangeMaps Go.Maps

def TextP (fs : List Pl.File) (path goal : Pl.Bs) (W : World) (e : Ending) (W' : World) : Prop :=
  ∃ r, TextR fs path goal r ∧ e = .returned (.tuple #[.string ⟨r.1.toArray⟩, .int .i64 (r.2.1 : Int), .int .i64 (r.2.2 : Int)]) ∧ Below W.heap.size W W'
theorem book_ok {M : Nat} {fs : List Pl.File} (hf : ∀ p g, Pl.look fs p = some g → g.text.length + 1 ≤ M ∧ g.text.length ≤ 1073741824) (path : Pl.Bs) : ∃ k, Ok (bookF fs path).2.2 k ∧ k ≤ 101 * M := by
  unfold bookF
  split
  · exact ⟨0, ok0, Nat.zero_le _⟩
  · rename_i g hg
    obtain ⟨⟨k, o1, o2⟩, -, -⟩ := readF_ok hf 3 st0 0 g.text ok0 (hf path g hg).1 (hf path g hg).2
    refine ⟨k, o1, ?_⟩
    have e : st0.inc = 0 := rfl
    rw [e] at o2
    omega
set_option maxHeartbeats 4000000 in
set_option maxRecDepth 100000 in
theorem text_unread (fs0 : List Pl.File) (path goal : Pl.Bs) (a : Option Addr) (cap b o M : Nat) (W : World) (ha : 0 < fs0.length → a = some ⟨b, o, none⟩) (hr : RdF W b o fs0) (hbw : b < W.heap.size) (hfl : fs0.length ≤ 8388608) (hg : Glob W)
    (hf : ∀ p g, Pl.look (fs0.foldl Pl.addF []) p = some g → g.text.length + 1 ≤ M ∧ g.text.length ≤ 1073741824) (hM : 101 * M ≤ 4294967296) (hne : (bookF (fs0.foldl Pl.addF []) path).1 ≠ 0) :
    Calls Tryz.prog 40 #[.slice a fs0.length cap, .string ⟨path.toArray⟩, .string ⟨goal.toArray⟩] W fun e W' => TextP (fs0.foldl Pl.addF []) path goal W e W' := by
  have C1 := hide (worldNew_any fs0 [] a none cap b o 0 W.heap.size b 0 0 W ha hr hbw hfl (fun q => (by cases q)) ⟨hbw, fun i h => (by cases h)⟩ (Nat.le_refl _) (by decide))
  rw [List.length_nil] at C1
  have C2 : Hid (∀ w1 bx bf bi, PW w1 bx bf bi (.slice none 0 0) [] (fs0.foldl Pl.addF []) 0 → Below W.heap.size W w1 → Calls Tryz.prog 64 #[.pointer (some ⟨bx, 0, none⟩), .string ⟨path.toArray⟩] w1 fun e W' => e = .returned (.tuple #[.pointer none, .int .i64 ((bookF (fs0.foldl Pl.addF []) path).1 : Int), .int .i64 ((bookF (fs0.foldl Pl.addF []) path).2.1 : Int)]) ∧ Below W.heap.size W W') := fun w1 bx bf bi hp hb => by
    refine (rulesRead_any bx path w1 hp (hg.later hb) hf hM).mono ?_
    rintro e w2 ⟨q1, q2, -⟩
    exact ⟨q2 hne, hb.trans (q1.mono hb.size)⟩
  have HT : Hid (TextR (fs0.foldl Pl.addF []) path goal ([], (bookF (fs0.foldl Pl.addF []) path).1, (bookF (fs0.foldl Pl.addF []) path).2.1)) := .inl ⟨hne, rfl⟩
  have hn1 : (((bookF (fs0.foldl Pl.addF []) path).1 : Int) != 0) = true := by rw [bne_iff_ne]; omega
  clear ha hr hg hf hne
  generalize (bookF (fs0.foldl Pl.addF []) path).1 = er at *
  generalize (bookF (fs0.foldl Pl.addF []) path).2.1 = ln at *
  generalize fs0.foldl Pl.addF [] = fs at *
  go_enter Tryz.func40, Tryz.ntmps40
  go_wp2_with (first
    | (go_at_call 61; refine (unhide C1).mono ?_; clear C1; rintro e w1 ⟨bx, bf, bi, rfl, hp, hb, -, -, -⟩; have C3 := hide (unhide C2 w1 bx bf bi hp hb); clear hp hb C2)
    | (go_at_call 64; refine (unhide C3).mono ?_; clear C3; rintro e w2 ⟨rfl, hb2⟩; have HB := hide hb2; clear hb2)
    | fail)
  go_ret3
  exact ⟨_, unhide HT, rfl, unhide HB⟩
end Go.Proofs.YtjelacjggijmfaaGreatDoor
namespace Go.Proofs.YtjelacjggijmfaaGreatDoor
open Go.RowKit Go.MapKept Go.ChangeMaps Go.Maps

theorem give_er {N : Pl.Bs → Cp.Nv} {sg : UInt8 → Option Pl.Bs} : ∀ (cs : List (Pl.Bs × Nat)) (k : Nat) (acc : List Pl.Bs) (er ln : Nat), GiveR N sg cs k acc (.inl (er, ln)) → er ≠ 0
  | [], _, _, _, _, h => by
    exact absurd h (fun q => by unfold GiveR at q; cases q)
  | c :: rest, k, acc, er, ln, ⟨r, _, h⟩ => by
    split at h
    · rename_i q
      cases h
      exact q
    · split at h
      · exact give_er rest k acc er ln h
      · exact give_er rest _ _ er ln h
theorem steps_er {N : Pl.Bs → Cp.Nv} : ∀ (nodes : List Nod) (k : Nat) (acc : List Stp) (er ln : Nat), StepsR N nodes k acc (.inl (er, ln)) → er ≠ 0
  | [], _, _, _, _, h => by
    exact absurd h (fun q => by unfold StepsR at q; cases q)
  | x :: rest, k, acc, er, ln, ⟨G, h1, h⟩ => by
    cases G with
    | inl e =>
      have e2 : (Sum.inl (er, ln) : (Nat × Nat) ⊕ (Nat × List Stp)) = .inl e := h
      cases e2
      exact give_er _ _ _ _ _ h1
    | inr p => exact steps_er rest _ _ er ln h
/-- What compile.stepsOf leaves to be done. -/
def StepsQ (N : Pl.Bs → Cp.Nv) (nodes : List Nod) (W : World) (e : Ending) (W' : World) : Prop :=
  ∃ (sv : Value) (er ln : Nat), e = .returned (.tuple #[sv, .int .i64 (er : Int), .int .i64 (ln : Int)]) ∧ Below W.heap.size W W' ∧ ∃ R, StepsR N nodes 0 [] R ∧
    ((er ≠ 0 ∧ StepsT R ([], er, ln)) ∨ (er = 0 ∧ ∃ po : Option Pl.Bs, StepsT R (match po with
      | none => ([], 5, 0)
      | some p => (p, 0, 0)) ∧ Calls Tryz.prog 67 #[sv] W' fun e W2 => e = .returned (textV po) ∧ Below W'.heap.size W' W2))
theorem steps_text {W : World} {L nm P : Nat} {vv : Value} {qv : List Vq} {NM : NL} (h : W.ownsRow L 197 5 vv qv.length (qv.flatMap vnC)) (hv : ∀ q ∈ qv, VqT W q) (hN : SMap W nm (nEnts NM)) (hSh : Short NM) (hg : Glob W) (h0 : 0 < qv.length) (hl : qv.length ≤ 100) (hB : ∀ x ∈ qv.map Vq.nd, NdB x) (hP : P ≤ 80000) (hs : ∀ x ∈ qv.map Vq.nd, x.name.length ≤ P ∧ x.needs.length ≤ 100 ∧ ∀ n ∈ x.needs, n.length ≤ P) :
    Calls Tryz.prog 66 #[vv, .map (some nm)] W fun e W' => StepsQ (nOf NM) (qv.map Vq.nd) W e W' := by
  rcases h.2 with ⟨_, h2⟩ | ⟨g, cap, cur, h1, _, h3, -⟩
  · omega
  · rw [h1] at h ⊢
    have hc := stepsOf_any (qv.map Vq.nd) (some ⟨g, 0, none⟩) cap g 0 nm NM W (fun _ => rfl) (heap_lt h3) (fun i hi => nodes_ndr h hv i hi) hN hSh hg (by rw [List.length_map]; omega) hB
    rw [List.length_map] at hc
    refine hc.mono ?_
    rintro e w2 ⟨R, q1, q2, q3⟩
    match R, q1, q3 with
    | .inl (er, ln), q1, q3 => exact ⟨_, er, ln, q3, q2, _, q1, .inl ⟨steps_er _ _ _ _ _ q1, rfl⟩⟩
    | .inr (k, ss), q1, q3 =>
      obtain ⟨z1, z2⟩ := steps_size (P := P) _ _ _ _ _ q1 hs (fun x hx => (by cases hx))
      rw [List.length_nil, List.length_map, Nat.zero_add] at z1
      rcases q3 with ⟨a1, a2⟩ | ⟨a1, sv, c, a2, a3, a4⟩
      · exact ⟨_, 5, 0, a2, q2, _, q1, .inl ⟨by decide, .inl ⟨a1, rfl⟩⟩⟩
      · exact ⟨sv, 0, 0, a2, q2, _, q1, .inr ⟨rfl, planW ss, .inr ⟨a1, rfl⟩, write_behind a3 a4 q2.size z2 hP (by omega) (by omega)⟩⟩
end Go.Proofs.YtjelacjggijmfaaGreatDoor
namespace Go.Proofs.YtjelacjggijmfaaGreatDoor
open Go.RowKit Go.MapKept Go.ChangeMaps Go.Maps

theorem fromF_more {s : St} {fs : List Pl.File} {us : List (Nat × List Pl.Bs)} : ∀ (n m : Nat) (p r : Nat × Wst), fromF s fs us n p = some r → fromF s fs us (n + m) p = some r
  | 0, m, p, r, h => by
    rw [fromF] at h
    split at h
    · rename_i q
      cases m with
      | zero => rw [fromF, if_pos q]; exact h
      | succ m => rw [Nat.zero_add, fromF, if_pos q]; exact h
    · cases h
  | n + 1, m, p, r, h => by
    rw [fromF] at h
    rw [show n + 1 + m = (n + m) + 1 by omega, fromF]
    split
    · rename_i q
      rw [if_pos q] at h
      exact h
    · rename_i q
      rw [if_neg q] at h
      exact fromF_more n m _ r h
theorem FromR.det {s : St} {fs : List Pl.File} {us : List (Nat × List Pl.Bs)} {p r q : Nat × Wst} (h : FromR s fs us p r) (g : FromR s fs us p q) : r = q := by
  obtain ⟨n, hn⟩ := h
  obtain ⟨m, hm⟩ := g
  have e1 := fromF_more n m p r hn
  have e2 := fromF_more m n p q hm
  rw [Nat.add_comm, e1] at e2
  cases e2
  rfl
theorem give_det {N : Pl.Bs → Cp.Nv} {sg : UInt8 → Option Pl.Bs} : ∀ (cs : List (Pl.Bs × Nat)) (k : Nat) (acc : List Pl.Bs) (R Q : (Nat × Nat) ⊕ (Nat × List Pl.Bs)), GiveR N sg cs k acc R → GiveR N sg cs k acc Q → R = Q
  | [], k, acc, R, Q, h, g => by
    have h' : R = .inr (k, acc) := h
    have g' : Q = .inr (k, acc) := g
    rw [h', g']
  | c :: rest, k, acc, R, Q, ⟨r, h1, h⟩, ⟨q, g1, g⟩ => by
    obtain rfl := h1.det g1
    split at h
    · rename_i e
      rw [if_pos e] at g
      rw [h, g]
    · rename_i e
      rw [if_neg e] at g
      split at h
      · rename_i e2
        rw [if_pos e2] at g
        exact give_det rest _ _ R Q h g
      · rename_i e2
        rw [if_neg e2] at g
        exact give_det rest _ _ R Q h g
theorem steps_det {N : Pl.Bs → Cp.Nv} : ∀ (ns : List Nod) (k : Nat) (acc : List Stp) (R Q : (Nat × Nat) ⊕ (Nat × List Stp)), StepsR N ns k acc R → StepsR N ns k acc Q → R = Q
  | [], k, acc, R, Q, h, g => by
    have h' : R = .inr (k, acc) := h
    have g' : Q = .inr (k, acc) := g
    rw [h', g']
  | x :: rest, k, acc, R, Q, ⟨G, h1, h⟩, ⟨K, g1, g⟩ => by
    obtain rfl := give_det _ _ _ _ _ h1 g1
    cases G with
    | inl e => exact (show R = .inl e from h).trans (show Q = .inl e from g).symm
    | inr p => exact steps_det rest _ _ R Q h g
theorem stepsT_det {R : (Nat × Nat) ⊕ (Nat × List Stp)} {r q : Pl.Bs × Nat × Nat} (h : StepsT R r) (g : StepsT R q) : r = q := by
  cases R with
  | inl e => exact (show r = _ from h).trans (show q = _ from g).symm
  | inr p =>
    rcases h with ⟨h1, h2⟩ | ⟨h1, h2⟩
    · rcases g with ⟨g1, g2⟩ | ⟨g1, g2⟩
      · rw [h2, g2]
      · omega
    · rcases g with ⟨g1, g2⟩ | ⟨g1, g2⟩
      · omega
      · rw [h2, g2]
theorem orderT_det {s : St} {fs : List Pl.File} {g : Pl.Bs} {r q : Pl.Bs × Nat × Nat} (h : OrderT s fs g r) (k : OrderT s fs g q) : r = q := by
  rcases h with ⟨a1, a2⟩ | ⟨a1, a2, a3⟩ | ⟨a1, a2, x, a3, a4⟩
  · rcases k with ⟨b1, b2⟩ | ⟨b1, b2, b3⟩ | ⟨b1, b2, y, b3, b4⟩
    · rw [a2, b2]
    · exact absurd a1 b1
    · exact absurd a1 b1
  · rcases k with ⟨b1, b2⟩ | ⟨b1, b2, b3⟩ | ⟨b1, b2, y, b3, b4⟩
    · exact absurd b1 a1
    · rw [a3, b3]
    · omega
  · rcases k with ⟨b1, b2⟩ | ⟨b1, b2, b3⟩ | ⟨b1, b2, y, b3, b4⟩
    · exact absurd b1 a1
    · omega
    · obtain rfl := a3.det b3
      rcases a4 with ⟨c1, c2⟩ | ⟨c1, c2, c3⟩ | ⟨c1, c2, R, c3, c4⟩
      · rcases b4 with ⟨d1, d2⟩ | ⟨d1, d2, d3⟩ | ⟨d1, d2, Q, d3, d4⟩
        · rw [c2, d2]
        · exact absurd d1 c1
        · exact absurd d1 c1
      · rcases b4 with ⟨d1, d2⟩ | ⟨d1, d2, d3⟩ | ⟨d1, d2, Q, d3, d4⟩
        · exact absurd c1 d1
        · rw [c3, d3]
        · omega
      · rcases b4 with ⟨d1, d2⟩ | ⟨d1, d2, d3⟩ | ⟨d1, d2, Q, d3, d4⟩
        · exact absurd c1 d1
        · omega
        · obtain rfl := steps_det _ _ _ _ _ c3 d3
          exact stepsT_det c4 d4
theorem TextR.det {fs : List Pl.File} {path goal : Pl.Bs} {r q : Pl.Bs × Nat × Nat} (h : TextR fs path goal r) (g : TextR fs path goal q) : r = q := by
  rcases h with ⟨h1, h2⟩ | ⟨h1, h2⟩
  · rcases g with ⟨g1, g2⟩ | ⟨g1, g2⟩
    · rw [h2, g2]
    · exact absurd g1 h1
  · rcases g with ⟨g1, g2⟩ | ⟨g1, g2⟩
    · exact absurd h1 g1
    · exact orderT_det h2 g2
/-- A plan that comes out was written; where there is an error there is no text. -/
theorem TextR.plan {fs : List Pl.File} {path goal : Pl.Bs} {r : Pl.Bs × Nat × Nat} (h : TextR fs path goal r) (h0 : r.2.1 = 0) : r.2.2 = 0 ∧ ∃ q k ss, FromR (bookF fs path).2.2 fs (usL (bookF fs path).2.2 fs (bookF fs path).2.2.pats) (enterF (bookF fs path).2.2 fs (usL (bookF fs path).2.2 fs (bookF fs path).2.2.pats) wst0 (goalF (bookF fs path).2.2 goal)) q ∧ q.1 = 0 ∧ q.2.over.length ≤ 100 ∧ (goalF (bookF fs path).2.2 goal).length ≤ 2000 ∧ StepsR (nOf (bookF fs path).2.2.names) q.2.over 0 [] (.inr (k, ss)) ∧ k ≤ 500 ∧ planW ss = some r.1 := by
  rcases h with ⟨h1, h2⟩ | ⟨h1, ⟨a1, a2⟩ | ⟨a1, a2, a3⟩ | ⟨a1, a2, x, a3, a4⟩⟩
  · rw [h2] at h0; exact absurd h0 h1
  · rw [a2] at h0; cases h0
  · rw [a3] at h0; cases h0
  · rcases a4 with ⟨c1, c2⟩ | ⟨c1, c2, c3⟩ | ⟨c1, c2, R, c3, c4⟩
    · rw [c2] at h0; exact absurd h0 c1
    · rw [c3] at h0; cases h0
    · cases R with
      | inl e =>
        have c5 : r = ([], e.1, e.2) := c4
        rw [c5] at h0
        exact absurd h0 (steps_er _ _ _ _ _ c3)
      | inr p =>
        rcases c4 with ⟨d1, d2⟩ | ⟨d1, d2⟩
        · rw [d2] at h0; cases h0
        · cases hp : planW p.2 with
          | none => rw [hp] at d2; rw [d2] at h0; cases h0
          | some t =>
            rw [hp] at d2
            refine ⟨by rw [d2], x, p.1, p.2, a3, c1, c2, a2, c3, d1, by rw [hp, d2]⟩
theorem TextR.none {fs : List Pl.File} {path goal : Pl.Bs} {r : Pl.Bs × Nat × Nat} (h : TextR fs path goal r) (h0 : r.2.1 ≠ 0) : r.1 = [] := by
  rcases h with ⟨h1, h2⟩ | ⟨h1, ⟨a1, a2⟩ | ⟨a1, a2, a3⟩ | ⟨a1, a2, x, a3, a4⟩⟩
  · rw [h2]
  · rw [a2]
  · rw [a3]
  · rcases a4 with ⟨c1, c2⟩ | ⟨c1, c2, c3⟩ | ⟨c1, c2, R, c3, c4⟩
    · rw [c2]
    · rw [c3]
    · cases R with
      | inl e => rw [show r = ([], e.1, e.2) from c4]
      | inr p =>
        rcases c4 with ⟨d1, d2⟩ | ⟨d1, d2⟩
        · rw [d2]
        · cases hp : planW p.2 with
          | none => rw [hp] at d2; rw [d2]
          | some t => rw [hp] at d2; rw [d2] at h0; exact absurd rfl h0
end Go.Proofs.YtjelacjggijmfaaGreatDoor
