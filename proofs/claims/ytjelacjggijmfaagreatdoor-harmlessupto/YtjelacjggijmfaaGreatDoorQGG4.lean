/-
  Harmless of package makerkeep: a plan that is checked gives no command but its own strings, and no more than it has bytes; one that is not does nothing. Proved of all arguments whose values and letters together come to at most 1048576: the row and its card.
  Harmless of package makerkeep: a plan that is checked gives no command but its own strings, and no more than it has bytes; one that is not does nothing. Proved of all arguments whose values and letters together, with what the listed tables hold, come to at most 1048576.
  For a law's row: what is handed in, opened.
  Harmless of package makerkeep: true for every text for a plan, all files, effects and clocks.
  The law's own: one rule with one command is done.
  Make of package maker; one rule with one command is done.
  One rule with one command: what making it comes to.
  Plans that are written: all steps: a plan is sound, and does what is told of the nodes in their order.
  Plans that are written: what stands for one node is sound, and does what is told of nodes.
  Plans that are written: one instruction, wherever it stands: it is sound there, and what it does.
  Compile and Make of package maker.
  compile.Text, whatever the rules.
  goals.Order, and what compile.Text has left to do then.
  compile.stepsOf behind goals.Order, and what is left to do then.
  compile.Text: rules that cannot be read.
  compile.write behind compile.stepsOf.
  A walk that ends well leaves a node; what making a plan of rules comes to.
  The steps that are made of nodes: how much they are.
-/
import Derived.Test.YtjelacjggijmfaaGreatDoorQGF9
import Derived.Test.YtjelacjggijmfaaGreatDoorQWRD
import Derived.Test.YtjelacjggijmfaaGreatDoorQMR1
import Derived.Test.YtjelacjggijmfaaGreatDoorQWRB
import Derived.Test.YtjelacjggijmfaaGreatDoorQRG1
import Derived.Deep.Cut
import Derived.Test.YtjelacjggijmfaaGreatDoorQHPure
import Derived.Test.YtjelacjggijmfaaGreatDoorQW9
import Derived.Test.YtjelacjggijmfaaGreatDoorRows
import Derived.ProofKit
import Derived.OpenShut
import Derived.JoinedCond
import Derived.Deep.Slices
import Derived.Carry
import Derived.Test.YtjelacjggijmfaaGreatDoorCards
import Derived.Test.YtjelacjggijmfaaGreatDoorTie
import Derived.Deep.DeepHandedRow
import Derived.Lib.LaidTab
namespace Go.Proofs.YtjelacjggijmfaaGreatDoor
open Go.RowKit Go.MapKept Go.ChangeMaps Go.Maps

theorem strsW_le (P : Nat) (xs : List Pl.Bs) (h : ∀ x ∈ xs, x.length ≤ P) : (strsW xs).length ≤ xs.length * (P + 2) := by
  induction xs with
  | nil => simp [strsW]
  | cons x r ih =>
    have ih' := ih (fun y hy => h y (List.mem_cons_of_mem _ hy))
    have h1 := h x (List.mem_cons_self ..)
    unfold strsW at *
    rw [List.flatMap_cons, List.length_append, List.length_cons, Nat.succ_mul]
    simp [beB_len x.length 2 (Nat.le_refl 2)] at *
    omega
theorem give_size {N : Pl.Bs → Cp.Nv} {sg : UInt8 → Option Pl.Bs} : ∀ (cs : List (Pl.Bs × Nat)) (k : Nat) (acc : List Pl.Bs) (k' : Nat) (out : List Pl.Bs), GiveR N sg cs k acc (.inr (k', out)) → acc.length ≤ k → acc.length ≤ 500 → (∀ c ∈ acc, c.length ≤ 2000) → out.length ≤ 500 ∧ ∀ c ∈ out, c.length ≤ 2000
  | [], k, acc, k', out, h, _, h2, h3 => by
    have e : (Sum.inr (k', out) : (Nat × Nat) ⊕ (Nat × List Pl.Bs)) = .inr (k, acc) := h
    cases e
    exact ⟨h2, h3⟩
  | c :: rest, k, acc, k', out, ⟨r, h1, h⟩, q1, q2, q3 => by
    split at h
    · cases h
    · split at h
      · exact give_size rest k acc k' out h q1 q2 q3
      · split at h
        · refine give_size rest (k + 1) _ k' out h ?_ ?_ (fun d hd => ?_)
          · rw [List.length_append, List.length_cons, List.length_nil]; omega
          · rw [List.length_append, List.length_cons, List.length_nil]; omega
          · rcases List.mem_append.1 hd with e | e
            · exact q3 d e
            · rw [List.mem_singleton] at e
              rw [e]; obtain ⟨f, hf⟩ := h1; exact expF_len f _ _ _ _ _ hf
        · exact give_size rest (k + 1) acc k' out h (by omega) q2 q3
/-- What a step is like. -/
structure StB (P : Nat) (x : Stp) : Prop where
  name : x.name.length ≤ P
  needs : x.needs.length ≤ 100
  nw : ∀ n ∈ x.needs, n.length ≤ P
  cmds : x.cmds.length ≤ 500
  cw : ∀ c ∈ x.cmds, c.length ≤ 2000
theorem steps_size {N : Pl.Bs → Cp.Nv} {P : Nat} : ∀ (nodes : List Nod) (k : Nat) (acc : List Stp) (k' : Nat) (ss : List Stp), StepsR N nodes k acc (.inr (k', ss)) → (∀ x ∈ nodes, x.name.length ≤ P ∧ x.needs.length ≤ 100 ∧ ∀ n ∈ x.needs, n.length ≤ P) → (∀ x ∈ acc, StB P x) → ss.length = acc.length + nodes.length ∧ ∀ x ∈ ss, StB P x
  | [], k, acc, k', ss, h, _, h2 => by
    have e : (Sum.inr (k', ss) : (Nat × Nat) ⊕ (Nat × List Stp)) = .inr (k, acc) := h
    cases e
    exact ⟨rfl, h2⟩
  | x :: rest, k, acc, k', ss, ⟨G, h1, h⟩, hn, h2 => by
    cases G with
    | inl e => cases h
    | inr p =>
      obtain ⟨k1, cs⟩ := p
      obtain ⟨a1, a2⟩ := give_size _ _ _ _ _ h1 (Nat.zero_le _) (Nat.zero_le _) (fun c hc => (by cases hc))
      obtain ⟨b1, b2, b3⟩ := hn x (List.mem_cons_self ..)
      obtain ⟨e1, e2⟩ := steps_size rest k1 _ k' ss h (fun y hy => hn y (List.mem_cons_of_mem _ hy)) (fun y hy => by
        rcases List.mem_append.1 hy with e | e
        · exact h2 y e
        · rw [List.mem_singleton] at e
          rw [e]; exact ⟨b1, b2, b3, a1, a2⟩)
      refine ⟨?_, e2⟩
      rw [e1, List.length_append, List.length_cons, List.length_cons, List.length_nil]; omega
theorem szs_le {P : Nat} : ∀ ss : List Stp, (∀ x ∈ ss, StB P x) → szs ss ≤ ss.length * (P + 100 * (P + 2) + 1001002)
  | [], _ => by simp [szs]
  | x :: r, h => by
    have ih := szs_le r (fun y hy => h y (List.mem_cons_of_mem _ hy))
    have hx := h x (List.mem_cons_self ..)
    have a1 := strsW_le P x.needs hx.nw
    have a2 := strsW_le 2000 x.cmds hx.cw
    have a3 := Nat.mul_le_mul_right (P + 2) hx.needs
    have a4 := Nat.mul_le_mul_right (2000 + 2) hx.cmds
    have a5 := hx.name
    have e : szs (x :: r) = x.sz + szs r := by simp [szs]
    rw [e, List.length_cons, Nat.succ_mul]
    unfold Stp.sz
    omega
end Go.Proofs.YtjelacjggijmfaaGreatDoor
namespace Go.Proofs.YtjelacjggijmfaaGreatDoor
open Go.RowKit Go.MapKept Go.ChangeMaps Go.Maps

section
variable {s : St} {fs : List Pl.File} {us : List (Nat × List Pl.Bs)}
theorem enter_ne {t : Wst} {name : Pl.Bs} (h : t.opn ≠ [] ∨ t.over ≠ []) : (enterF s fs us t name).2.opn ≠ [] ∨ (enterF s fs us t name).2.over ≠ [] := by
  unfold enterF
  split
  · exact h
  · split
    · exact h
    · split
      · exact h
      · exact .inl (by simp)
theorem goOn_ne {t : Wst} {x : Nod × Nat} (hl : t.opn.getLast? = some x) : (goOnF s fs us t).2.opn ≠ [] ∨ (goOnF s fs us t).2.over ≠ [] := by
  unfold goOnF
  rw [hl]
  simp only
  split
  · unfold leaveF
    rw [hl]
    refine .inr ?_
    simp only
    split
    · simp
    · rename_i q
      exact fun e => q (by rw [e]; exact Nat.zero_le _)
  · exact enter_ne (.inl (by simp))
/-- The goal itself is over. -/
theorem over_ne {g : Pl.Bs} {r : Nat × Wst} (h : FromR s fs us (enterF s fs us wst0 g) r) (h0 : r.1 = 0) : 0 < r.2.over.length := by
  have hn := (walk_ov h h0).2
  obtain ⟨n, hf⟩ := h
  have := fromF_keep (fun t => t.opn ≠ [] ∨ t.over ≠ []) (fun t x _ hl _ => goOn_ne hl) n _ r hf (fun e => by
    unfold enterF at e ⊢
    have z2 : ¬ flagOf wst0.sts g = 2 := fun q => (by cases q)
    have z1 : ¬ flagOf wst0.sts g = 1 := fun q => (by cases q)
    rw [if_neg z2, if_neg z1] at e ⊢
    split at e
    · cases e
    · rename_i q
      rw [if_neg q]
      exact .inl (by simp)) h0
  rcases this with q | q
  · exact absurd hn q
  · exact List.length_pos_iff.2 q
end
/-- What compile.Text comes to: the plan, or an error and its line. -/
def StepsT (ss : (Nat × Nat) ⊕ (Nat × List Stp)) (r : Pl.Bs × Nat × Nat) : Prop := match ss with
  | .inl (er, ln) => r = ([], er, ln)
  | .inr (k, ss) => (500 < k ∧ r = ([], 5, 0)) ∨ (k ≤ 500 ∧ r = match planW ss with
    | none => ([], 5, 0)
    | some p => (p, 0, 0))
def OrderT (s : St) (fs : List Pl.File) (g : Pl.Bs) (r : Pl.Bs × Nat × Nat) : Prop :=
  (g = [] ∧ r = ([], 8, 0)) ∨ (g ≠ [] ∧ 2000 < g.length ∧ r = ([], 5, 0)) ∨
    (g ≠ [] ∧ g.length ≤ 2000 ∧ ∃ q, FromR s fs (usL s fs s.pats) (enterF s fs (usL s fs s.pats) wst0 g) q ∧
      ((q.1 ≠ 0 ∧ r = ([], q.1, 0)) ∨ (q.1 = 0 ∧ 100 < q.2.over.length ∧ r = ([], 5, 0)) ∨
        (q.1 = 0 ∧ q.2.over.length ≤ 100 ∧ ∃ R, StepsR (nOf s.names) q.2.over 0 [] R ∧ StepsT R r)))
def TextR (fs : List Pl.File) (path goal : Pl.Bs) (r : Pl.Bs × Nat × Nat) : Prop :=
  ((bookF fs path).1 ≠ 0 ∧ r = ([], (bookF fs path).1, (bookF fs path).2.1)) ∨
    ((bookF fs path).1 = 0 ∧ OrderT (bookF fs path).2.2 fs (goalF (bookF fs path).2.2 goal) r)
end Go.Proofs.YtjelacjggijmfaaGreatDoor
namespace Go.Proofs.YtjelacjggijmfaaGreatDoor
open Go.RowKit Go.MapKept Go.ChangeMaps Go.Maps

theorem write_behind {W : World} {L P : Nat} {sv : Value} {ss : List Stp} {c : List Value} (h : W.ownsRow L 206 6 sv ss.length c) (hs : StC W L ss c) (hLW : L ≤ W.heap.size) (hb : ∀ x ∈ ss, StB P x) (hP : P ≤ 80000) (h0 : 0 < ss.length) (hl : ss.length ≤ 100) :
    Calls Tryz.prog 67 #[sv] W fun e W' => e = .returned (textV (planW ss)) ∧ Below W.heap.size W W' := by
  have hz := szs_le ss hb
  have hm := Nat.mul_le_mul_right (P + 100 * (P + 2) + 1001002) hl
  rcases h.2 with ⟨_, h2⟩ | ⟨g, cap, cur, h1, _, h3, -⟩
  · omega
  · have h' := h
    rw [h1] at h'
    rw [h1]
    refine write_any ss (some ⟨g, 0, none⟩) cap g 0 W (fun _ => rfl) (heap_lt h3) (fun i hi => ?_) h0 (by omega) (fun x hx => ⟨Nat.le_trans (hb x hx).needs (by decide), Nat.le_trans (hb x hx).cmds (by decide)⟩) (by omega)
    obtain ⟨a, q1, q2⟩ := StC.at ss c hs i hi
    obtain ⟨an, ac, am, cn, cc, nb, no, cb, co, nm, cm, rfl, p2, p3⟩ := q1
    refine ⟨an, ac, am, cn, cc, nb, no, cb, co, nm, cm, fun j u hj => ?_, fun q => ?_, fun q => ?_⟩
    · have hj6 : j < 6 := by
        rcases Nat.lt_or_ge j 6 with q | q
        · exact q
        · rw [List.getElem?_eq_none (by show 6 ≤ j; exact q)] at hj; cases hj
      rw [Nat.zero_add]
      exact own_cell2 h' (i * 6 + j) u ((q2 j hj6).trans hj)
    · obtain ⟨e1, e2, e3⟩ := p2 q
      exact ⟨e1, Nat.lt_of_lt_of_le e2 hLW, e3⟩
    · obtain ⟨e1, e2, _, e4⟩ := p3 q
      exact ⟨e1, e2, e4⟩
end Go.Proofs.YtjelacjggijmfaaGreatDoor
namespace Go.Proofs.YtjelacjggijmfaaGreatDoor
open Go.RowKit Go.MapKept Go.ChangeMaps Go.Maps

def TextP (fs : List Pl.File) (path goal : Pl.Bs) (W : World) (e : Ending) (W' : World) : Prop :=
  ∃ r, TextR fs path goal r ∧ e = .returned (.tuple #[.string ⟨r.1.toArray⟩, .int .i64 (r.2.1 : Int), .int .i64 (r.2.2 : Int)]) ∧ Below W.heap.size W W'
theorem book_ok {M : Nat} {fs : List Pl.File} (hf : ∀ p g, Pl.look fs p = some g → g.text.length + 1 ≤ M ∧ g.text.length ≤ 1073741824) (path : Pl.Bs) : ∃ k, Ok (bookF fs path).2.2 k ∧ k ≤ 101 * M := by
  unfold bookF
  split
  · exact ⟨0, ok0, Nat.zero_le _⟩
  · rename_i g hg
    obtain ⟨⟨k, o1, o2⟩, -, -⟩ := readF_ok hf 3 st0 0 g.text ok0 (hf path g hg).1 (hf path g hg).2
    refine ⟨k, o1, ?_⟩
    have e : st0.inc = 0 := rfl
    rw [e] at o2
    omega
set_option maxHeartbeats 4000000 in
set_option maxRecDepth 100000 in
theorem text_unread (fs0 : List Pl.File) (path goal : Pl.Bs) (a : Option Addr) (cap b o M : Nat) (W : World) (ha : 0 < fs0.length → a = some ⟨b, o, none⟩) (hr : RdF W b o fs0) (hbw : b < W.heap.size) (hfl : fs0.length ≤ 8388608) (hg : Glob W)
    (hf : ∀ p g, Pl.look (fs0.foldl Pl.addF []) p = some g → g.text.length + 1 ≤ M ∧ g.text.length ≤ 1073741824) (hM : 101 * M ≤ 4294967296) (hne : (bookF (fs0.foldl Pl.addF []) path).1 ≠ 0) :
    Calls Tryz.prog 40 #[.slice a fs0.length cap, .string ⟨path.toArray⟩, .string ⟨goal.toArray⟩] W fun e W' => TextP (fs0.foldl Pl.addF []) path goal W e W' := by
  have C1 := hide (worldNew_any fs0 [] a none cap b o 0 W.heap.size b 0 0 W ha hr hbw hfl (fun q => (by cases q)) ⟨hbw, fun i h => (by cases h)⟩ (Nat.le_refl _) (by decide))
  rw [List.length_nil] at C1
  have C2 : Hid (∀ w1 bx bf bi, PW w1 bx bf bi (.slice none 0 0) [] (fs0.foldl Pl.addF []) 0 → Below W.heap.size W w1 → Calls Tryz.prog 64 #[.pointer (some ⟨bx, 0, none⟩), .string ⟨path.toArray⟩] w1 fun e W' => e = .returned (.tuple #[.pointer none, .int .i64 ((bookF (fs0.foldl Pl.addF []) path).1 : Int), .int .i64 ((bookF (fs0.foldl Pl.addF []) path).2.1 : Int)]) ∧ Below W.heap.size W W') := fun w1 bx bf bi hp hb => by
    refine (rulesRead_any bx path w1 hp (hg.later hb) hf hM).mono ?_
    rintro e w2 ⟨q1, q2, -⟩
    exact ⟨q2 hne, hb.trans (q1.mono hb.size)⟩
  have HT : Hid (TextR (fs0.foldl Pl.addF []) path goal ([], (bookF (fs0.foldl Pl.addF []) path).1, (bookF (fs0.foldl Pl.addF []) path).2.1)) := .inl ⟨hne, rfl⟩
  have hn1 : (((bookF (fs0.foldl Pl.addF []) path).1 : Int) != 0) = true := by rw [bne_iff_ne]; omega
  clear ha hr hg hf hne
  generalize (bookF (fs0.foldl Pl.addF []) path).1 = er at *
  generalize (bookF (fs0.foldl Pl.addF []) path).2.1 = ln at *
  generalize fs0.foldl Pl.addF [] = fs at *
  go_enter Tryz.func40, Tryz.ntmps40
  go_wp2_with (first
    | (go_at_call 61; refine (unhide C1).mono ?_; clear C1; rintro e w1 ⟨bx, bf, bi, rfl, hp, hb, -, -, -⟩; have C3 := hide (unhide C2 w1 bx bf bi hp hb); clear hp hb C2)
    | (go_at_call 64; refine (unhide C3).mono ?_; clear C3; rintro e w2 ⟨rfl, hb2⟩; have HB := hide hb2; clear hb2)
    | fail)
  go_ret3
  exact ⟨_, unhide HT, rfl, unhide HB⟩
end Go.Proofs.YtjelacjggijmfaaGreatDoor
namespace Go.Proofs.YtjelacjggijmfaaGreatDoor
open Go.RowKit Go.MapKept Go.ChangeMaps Go.Maps

theorem give_er {N : Pl.Bs → Cp.Nv} {sg : UInt8 → Option Pl.Bs} : ∀ (cs : List (Pl.Bs × Nat)) (k : Nat) (acc : List Pl.Bs) (er ln : Nat), GiveR N sg cs k acc (.inl (er, ln)) → er ≠ 0
  | [], _, _, _, _, h => by
    exact absurd h (fun q => by unfold GiveR at q; cases q)
  | c :: rest, k, acc, er, ln, ⟨r, _, h⟩ => by
    split at h
    · rename_i q
      cases h
      exact q
    · split at h
      · exact give_er rest k acc er ln h
      · exact give_er rest _ _ er ln h
theorem steps_er {N : Pl.Bs → Cp.Nv} : ∀ (nodes : List Nod) (k : Nat) (acc : List Stp) (er ln : Nat), StepsR N nodes k acc (.inl (er, ln)) → er ≠ 0
  | [], _, _, _, _, h => by
    exact absurd h (fun q => by unfold StepsR at q; cases q)
  | x :: rest, k, acc, er, ln, ⟨G, h1, h⟩ => by
    cases G with
    | inl e =>
      have e2 : (Sum.inl (er, ln) : (Nat × Nat) ⊕ (Nat × List Stp)) = .inl e := h
      cases e2
      exact give_er _ _ _ _ _ h1
    | inr p => exact steps_er rest _ _ er ln h
/-- What compile.stepsOf leaves to be done. -/
def StepsQ (N : Pl.Bs → Cp.Nv) (nodes : List Nod) (W : World) (e : Ending) (W' : World) : Prop :=
  ∃ (sv : Value) (er ln : Nat), e = .returned (.tuple #[sv, .int .i64 (er : Int), .int .i64 (ln : Int)]) ∧ Below W.heap.size W W' ∧ ∃ R, StepsR N nodes 0 [] R ∧
    ((er ≠ 0 ∧ StepsT R ([], er, ln)) ∨ (er = 0 ∧ ∃ po : Option Pl.Bs, StepsT R (match po with
      | none => ([], 5, 0)
      | some p => (p, 0, 0)) ∧ Calls Tryz.prog 67 #[sv] W' fun e W2 => e = .returned (textV po) ∧ Below W'.heap.size W' W2))
theorem steps_text {W : World} {L nm P : Nat} {vv : Value} {qv : List Vq} {NM : NL} (h : W.ownsRow L 197 5 vv qv.length (qv.flatMap vnC)) (hv : ∀ q ∈ qv, VqT W q) (hN : SMap W nm (nEnts NM)) (hSh : Short NM) (hg : Glob W) (h0 : 0 < qv.length) (hl : qv.length ≤ 100) (hB : ∀ x ∈ qv.map Vq.nd, NdB x) (hP : P ≤ 80000) (hs : ∀ x ∈ qv.map Vq.nd, x.name.length ≤ P ∧ x.needs.length ≤ 100 ∧ ∀ n ∈ x.needs, n.length ≤ P) :
    Calls Tryz.prog 66 #[vv, .map (some nm)] W fun e W' => StepsQ (nOf NM) (qv.map Vq.nd) W e W' := by
  rcases h.2 with ⟨_, h2⟩ | ⟨g, cap, cur, h1, _, h3, -⟩
  · omega
  · rw [h1] at h ⊢
    have hc := stepsOf_any (qv.map Vq.nd) (some ⟨g, 0, none⟩) cap g 0 nm NM W (fun _ => rfl) (heap_lt h3) (fun i hi => nodes_ndr h hv i hi) hN hSh hg (by rw [List.length_map]; omega) hB
    rw [List.length_map] at hc
    refine hc.mono ?_
    rintro e w2 ⟨R, q1, q2, q3⟩
    match R, q1, q3 with
    | .inl (er, ln), q1, q3 => exact ⟨_, er, ln, q3, q2, _, q1, .inl ⟨steps_er _ _ _ _ _ q1, rfl⟩⟩
    | .inr (k, ss), q1, q3 =>
      obtain ⟨z1, z2⟩ := steps_size (P := P) _ _ _ _ _ q1 hs (fun x hx => (by cases hx))
      rw [List.length_nil, List.length_map, Nat.zero_add] at z1
      rcases q3 with ⟨a1, a2⟩ | ⟨a1, sv, c, a2, a3, a4⟩
      · exact ⟨_, 5, 0, a2, q2, _, q1, .inl ⟨by decide, .inl ⟨a1, rfl⟩⟩⟩
      · exact ⟨sv, 0, 0, a2, q2, _, q1, .inr ⟨rfl, planW ss, .inr ⟨a1, rfl⟩, write_behind a3 a4 q2.size z2 hP (by omega) (by omega)⟩⟩
end Go.Proofs.YtjelacjggijmfaaGreatDoor
namespace Go.Proofs.YtjelacjggijmfaaGreatDoor
open Go.RowKit Go.MapKept Go.ChangeMaps Go.Maps

theorem uni_len {s : St} {fs : List Pl.File} {g : Pl.Bs} {k P : Nat} (hok : Ok s k) (hP : 2000 ≤ P) (hfp : ∀ f ∈ fs, f.path.length ≤ P) (hg : g.length ≤ 2000) : ∀ y ∈ uniL s fs g, y.length ≤ P := fun y hy => by
  rcases List.mem_cons.1 hy with q | q
  · rw [q]; omega
  · rcases List.mem_append.1 q with q | q
    · obtain ⟨z, h1, h2⟩ := List.mem_flatten.1 q
      obtain ⟨r, h3, rfl⟩ := List.mem_map.1 h1
      have := (hok.rs r h3).nw y h2
      omega
    · rcases List.mem_append.1 q with q | q
      · obtain ⟨z, h1, h2⟩ := List.mem_flatten.1 q
        obtain ⟨r, h3, rfl⟩ := List.mem_map.1 h1
        have := (hok.rs r h3).tw y h2
        omega
      · obtain ⟨f, h1, rfl⟩ := List.mem_map.1 q
        exact hfp f h1
/-- The nodes' names stay short. -/
def NmB (s : St) (fs : List Pl.File) (g : Pl.Bs) (P : Nat) : Prop := g.length ≤ 2000 → ∀ r, FromR s fs (usL s fs s.pats) (enterF s fs (usL s fs s.pats) wst0 g) r → r.1 = 0 → r.2.over.length ≤ 100 → ∀ x ∈ r.2.over, x.name.length ≤ P
def OrderQ (s : St) (fs : List Pl.File) (g : Pl.Bs) (nm : Nat) (W : World) (e : Ending) (W' : World) : Prop :=
  ∃ (nv : Value) (er : Nat), e = .returned (.tuple #[nv, .int .i64 (er : Int)]) ∧ Below W.heap.size W W' ∧
    ((er ≠ 0 ∧ OrderT s fs g ([], er, 0)) ∨ (er = 0 ∧ ∃ nodes, (∀ R r, StepsR (nOf s.names) nodes 0 [] R → StepsT R r → OrderT s fs g r) ∧ Calls Tryz.prog 66 #[nv, .map (some nm)] W' fun e W2 => StepsQ (nOf s.names) nodes W' e W2))
theorem order_text {W : World} {c : Ad} {rb : Nat → Nat} {s : St} {vp : Value} {l : Ents} {bf bi : Nat} {ve : Value} {ef : List Pl.Eff} {fs : List Pl.File} {clock : Int} (gl : Pl.Bs) (k P : Nat) (hB : BM W c rb s vp l) (hp : PW W c.bx bf bi ve ef fs clock) (hgl : Glob W) (hok : Ok s k) (hk : k ≤ 200000000) (ht : Tgs s) (hu : NdU s) (hfl : fs.length ≤ 4000000000) (hP2 : P ≤ 80000) (hfp : ∀ f ∈ fs, f.path.length ≤ 8388608) (hnm : NmB s fs (goalF s gl) P) :
    Calls Tryz.prog 65 #[.pointer (some ⟨c.bb, 0, none⟩), .pointer (some ⟨c.bx, 0, none⟩), .string ⟨gl.toArray⟩] W fun e W' => OrderQ s fs (goalF s gl) c.nm W e W' := by
  have hU : (goalF s gl).length ≤ 2000 → Uni s fs (usL s fs s.pats) (uniL s fs (goalF s gl)) 256002000 := fun h => uni_any hok ht hB.ol hB.pl hfl (fun f hf => Nat.le_trans (hfp f hf) (by omega)) (by omega)
  refine (order_any gl k (fun _ h2 => walk_ok (hU h2) _ (List.mem_cons_self ..)) hB hp hgl hok).mono ?_
  rintro e w2 ⟨hb, ⟨q1, q2⟩ | ⟨q1, q2, q3⟩ | ⟨q1, q2, r, q3, ⟨q4, q5⟩ | ⟨q4, q5, q6⟩ | ⟨q4, q5, vv, qv, q6, q7, q8, q9⟩⟩⟩
  · exact ⟨_, 8, q2, hb, .inl ⟨by decide, .inl ⟨q1, rfl⟩⟩⟩
  · exact ⟨_, 5, q3, hb, .inl ⟨by decide, .inr (.inl ⟨q1, q2, rfl⟩)⟩⟩
  · exact ⟨_, r.1, q5, hb, .inl ⟨q4, .inr (.inr ⟨q1, q2, r, q3, .inl ⟨q4, rfl⟩⟩)⟩⟩
  · exact ⟨_, 5, q6, hb, .inl ⟨by decide, .inr (.inr ⟨q1, q2, r, q3, .inr (.inl ⟨q4, q5, rfl⟩)⟩)⟩⟩
  · have hov := (walk_ov q3 q4).1
    have hnm' := hnm q2 r q3 q4 q5
    have hw := walk_inv (hU q2) (List.mem_cons_self ..) q3 q4
    have hul := uni_len hok (P := 8388608) (by omega) hfp q2
    have hne := over_ne q3 q4
    have hlen : qv.length = r.2.over.length := by rw [← q9, List.length_map]
    have hus : ∀ x ∈ usL s fs s.pats, x.1 < s.rules.length := fun x hx => by
      unfold usL at hx
      obtain ⟨i, hi, rfl⟩ := List.mem_map.1 hx
      exact hB.pl i (List.mem_filter.1 hi).1
    refine ⟨vv, 0, q6, hb, .inr ⟨rfl, qv.map Vq.nd, fun R t a1 a2 => .inr (.inr ⟨q1, q2, r, q3, .inr (.inr ⟨q4, q5, R, by rw [← q9]; exact a1, a2⟩)⟩), ?_⟩⟩
    refine steps_text (P := P) q7 q8 (hB.later hb).names hok.short (hgl.later hb) (by omega) (by omega) (fun x hx => ?_) hP2 (fun x hx => ?_)
    · rw [q9] at hx
      exact over_ndb hok hk hu hB.ol hus 8388608 (Nat.le_refl _) hul hw hov q5 hx
    · rw [q9] at hx
      obtain ⟨z1, z2⟩ := over_needs hu hov q5 hx
      refine ⟨hnm' x hx, z1, fun n hn => ?_⟩
      obtain ⟨y, a, b⟩ := z2 n hn
      rw [← b]; exact hnm' y a
end Go.Proofs.YtjelacjggijmfaaGreatDoor
namespace Go.Proofs.YtjelacjggijmfaaGreatDoor
open Go.RowKit Go.MapKept Go.ChangeMaps Go.Maps

set_option maxHeartbeats 4000000 in
set_option maxRecDepth 100000 in
theorem text_read (fs0 : List Pl.File) (path goal : Pl.Bs) (a : Option Addr) (cap b o M P : Nat) (W : World) (ha : 0 < fs0.length → a = some ⟨b, o, none⟩) (hr : RdF W b o fs0) (hbw : b < W.heap.size) (hfl : fs0.length ≤ 8388608) (hg : Glob W)
    (hf : ∀ p g, Pl.look (fs0.foldl Pl.addF []) p = some g → g.text.length + 1 ≤ M ∧ g.text.length ≤ 1073741824) (hM : 101 * M ≤ 200000000) (hl4 : (fs0.foldl Pl.addF []).length ≤ 4000000000) (hP2 : P ≤ 80000) (hfp : ∀ f ∈ fs0.foldl Pl.addF [], f.path.length ≤ 8388608) (hnm : NmB (bookF (fs0.foldl Pl.addF []) path).2.2 (fs0.foldl Pl.addF []) (goalF (bookF (fs0.foldl Pl.addF []) path).2.2 goal) P) (hz : (bookF (fs0.foldl Pl.addF []) path).1 = 0) :
    Calls Tryz.prog 40 #[.slice a fs0.length cap, .string ⟨path.toArray⟩, .string ⟨goal.toArray⟩] W fun e W' => TextP (fs0.foldl Pl.addF []) path goal W e W' := by
  have C1 := hide (worldNew_any fs0 [] a none cap b o 0 W.heap.size b 0 0 W ha hr hbw hfl (fun q => (by cases q)) ⟨hbw, fun i h => (by cases h)⟩ (Nat.le_refl _) (by decide))
  rw [List.length_nil] at C1
  obtain ⟨k, hok, hk⟩ := book_ok hf path
  have ht := tgs_book (fs0.foldl Pl.addF []) path
  have hu := ndu_book (fs0.foldl Pl.addF []) path
  have HT : Hid (∀ r, OrderT (bookF (fs0.foldl Pl.addF []) path).2.2 (fs0.foldl Pl.addF []) (goalF (bookF (fs0.foldl Pl.addF []) path).2.2 goal) r → TextR (fs0.foldl Pl.addF []) path goal r) := fun r h => .inr ⟨hz, h⟩
  have C2 : Hid (∀ w1 bx bf bi, PW w1 bx bf bi (.slice none 0 0) [] (fs0.foldl Pl.addF []) 0 → Below W.heap.size W w1 → Calls Tryz.prog 64 #[.pointer (some ⟨bx, 0, none⟩), .string ⟨path.toArray⟩] w1 fun e w2 => ∃ bb nm, e = .returned (.tuple #[.pointer (some ⟨bb, 0, none⟩), .int .i64 0, .int .i64 0]) ∧
      Calls Tryz.prog 65 #[.pointer (some ⟨bb, 0, none⟩), .pointer (some ⟨bx, 0, none⟩), .string ⟨goal.toArray⟩] w2 fun e w3 => OrderQ (bookF (fs0.foldl Pl.addF []) path).2.2 (fs0.foldl Pl.addF []) (goalF (bookF (fs0.foldl Pl.addF []) path).2.2 goal) nm w2 e w3 ∧ w3.cell? ⟨bb, 0, none⟩ = some (.map (some nm)) ∧ Below W.heap.size W w3) := fun w1 bx bf bi hp hb => by
    refine (rulesRead_any bx path w1 hp (hg.later hb) hf (by omega)).mono ?_
    rintro e w2 ⟨q1, -, q3⟩
    obtain ⟨c, G, rb, e1, e2, e3, -⟩ := q3 hz
    obtain ⟨vp, l, hB⟩ := RdM.bm e3
    refine ⟨c.bb, c.nm, e2, ?_⟩
    have hp2 := hp.later q1
    rw [← e1] at hp2 ⊢
    refine (order_text goal k P hB hp2 ((hg.later hb).later q1) hok (by omega) ht hu hl4 hP2 hfp hnm).mono ?_
    rintro e w3 hq
    have hq' := hq
    obtain ⟨_, _, _, h3, _⟩ := hq
    exact ⟨hq', Row.cell? (i := 0) (hB.later h3).book rfl, (hb.trans (q1.mono hb.size)).trans (h3.mono (hb.trans (q1.mono hb.size)).size)⟩
  clear ha hr hg hf hfp hok ht hu hz hnm
  generalize (bookF (fs0.foldl Pl.addF []) path).2.2 = s at *
  generalize goalF s goal = g at *
  generalize fs0.foldl Pl.addF [] = fs at *
  go_enter Tryz.func40, Tryz.ntmps40
  go_wp2_with (first
    | (go_at_call 61; refine (unhide C1).mono ?_; clear C1; rintro e w1 ⟨bx, bf, bi, rfl, hp, hb, -, -, -⟩; have C3 := hide (unhide C2 w1 bx bf bi hp hb); clear hp hb C2)
    | (go_at_call 64; refine (unhide C3).mono ?_; clear C3; rintro e w2 ⟨bb, nm, rfl, co⟩; have C4 := hide co; clear co)
    | (go_at_call 65; refine (unhide C4).mono ?_; clear C4; rintro e w3 ⟨⟨nv, er, rfl, -, ho⟩, y0, hb3⟩; have HB := hide hb3; have H5 : Hid ((((er : Int) != 0) = true → TextR fs path goal ([], er, 0)) ∧ (((er : Int) != 0) = false → ∃ nodes, (∀ R r, StepsR (nOf s.names) nodes 0 [] R → StepsT R r → TextR fs path goal r) ∧ Calls Tryz.prog 66 #[nv, .map (some nm)] w3 fun e W2 => StepsQ (nOf s.names) nodes w3 e W2)) := (by
        rcases ho with ⟨o1, o2⟩ | ⟨o1, nodes, o2, o3⟩
        · exact ⟨fun _ => unhide HT _ o2, fun q => absurd (bne_eq_false_iff_eq.1 q) (by omega)⟩
        · exact ⟨fun q => absurd o1 (by have := bne_iff_ne.1 q; omega), fun _ => ⟨nodes, fun R r a1 a2 => unhide HT r (o2 R r a1 a2), o3⟩⟩); clear hb3 ho HT)
    | (go_at_call 66; obtain ⟨nodes, o2, o3⟩ := (unhide H5).2 (by assumption); clear H5; refine o3.mono ?_; clear o3; rintro e w4 ⟨sv, er2, ln2, rfl, hb4, R, hR, hs⟩; have HB4 := hide ((unhide HB).trans (hb4.mono (unhide HB).size)); have H6 : Hid ((((er2 : Int) != 0) = true → TextR fs path goal ([], er2, ln2)) ∧ (((er2 : Int) != 0) = false → ∃ po : Option Pl.Bs, TextR fs path goal (match po with
          | none => ([], 5, 0)
          | some p => (p, 0, 0)) ∧ Calls Tryz.prog 67 #[sv] w4 fun e W2 => e = .returned (textV po) ∧ Below w4.heap.size w4 W2)) := (by
        rcases hs with ⟨o1, q2⟩ | ⟨o1, po, q2, q3⟩
        · exact ⟨fun _ => o2 _ _ hR q2, fun q => absurd (bne_eq_false_iff_eq.1 q) (by omega)⟩
        · exact ⟨fun q => absurd o1 (by have := bne_iff_ne.1 q; omega), fun _ => ⟨po, o2 _ _ hR q2, q3⟩⟩); clear hb4 hR hs o2 HB)
    | fail)
  · rename_i q
    go_ret3
    exact ⟨_, (unhide H5).1 q, rfl, unhide HB⟩
  · rename_i q
    go_ret3
    exact ⟨_, (unhide H6).1 q, rfl, unhide HB4⟩
  · obtain ⟨po, p1, p2⟩ := (unhide H6).2 (by assumption)
    refine p2.mono ?_
    rintro e w5 ⟨rfl, hb5⟩
    have HB5 := hide ((unhide HB4).trans (hb5.mono (unhide HB4).size))
    clear hb5 p2 H6
    cases po with
    | none =>
      unfold textV
      go_wp2_with fail
      go_ret3
      exact ⟨_, p1, rfl, unhide HB5⟩
    | some p =>
      unfold textV
      go_wp2_with fail
      go_ret3
      exact ⟨_, p1, rfl, unhide HB5⟩
/-- compile.Text, whatever the rules. -/
theorem text_any (fs0 : List Pl.File) (path goal : Pl.Bs) (a : Option Addr) (cap b o M P : Nat) (W : World) (ha : 0 < fs0.length → a = some ⟨b, o, none⟩) (hr : RdF W b o fs0) (hbw : b < W.heap.size) (hfl : fs0.length ≤ 8388608) (hg : Glob W)
    (hf : ∀ p g, Pl.look (fs0.foldl Pl.addF []) p = some g → g.text.length + 1 ≤ M ∧ g.text.length ≤ 1073741824) (hM : 101 * M ≤ 200000000) (hl4 : (fs0.foldl Pl.addF []).length ≤ 4000000000) (hP2 : P ≤ 80000) (hfp : ∀ f ∈ fs0.foldl Pl.addF [], f.path.length ≤ 8388608) (hnm : NmB (bookF (fs0.foldl Pl.addF []) path).2.2 (fs0.foldl Pl.addF []) (goalF (bookF (fs0.foldl Pl.addF []) path).2.2 goal) P) :
    Calls Tryz.prog 40 #[.slice a fs0.length cap, .string ⟨path.toArray⟩, .string ⟨goal.toArray⟩] W fun e W' => TextP (fs0.foldl Pl.addF []) path goal W e W' := by
  by_cases hz : (bookF (fs0.foldl Pl.addF []) path).1 = 0
  · exact text_read fs0 path goal a cap b o M P W ha hr hbw hfl hg hf hM hl4 hP2 hfp hnm hz
  · exact text_unread fs0 path goal a cap b o M W ha hr hbw hfl hg hf (by omega) hz
end Go.Proofs.YtjelacjggijmfaaGreatDoor
namespace Go.Proofs.YtjelacjggijmfaaGreatDoor
open Go.RowKit Go.MapKept Go.ChangeMaps Go.Maps

/-- What they ask of files. -/
structure FsOk (fs0 : List Pl.File) (path goal : Pl.Bs) : Prop where
  few : fs0.length ≤ 8388608
  text : ∃ M, 101 * M ≤ 200000000 ∧ ∀ p g, Pl.look (fs0.foldl Pl.addF []) p = some g → g.text.length + 1 ≤ M ∧ g.text.length ≤ 1073741824
  many : (fs0.foldl Pl.addF []).length ≤ 4000000000
  long : ∀ f ∈ fs0.foldl Pl.addF [], f.path.length ≤ 8388608
  name : ∃ P, P ≤ 80000 ∧ NmB (bookF (fs0.foldl Pl.addF []) path).2.2 (fs0.foldl Pl.addF []) (goalF (bookF (fs0.foldl Pl.addF []) path).2.2 goal) P
set_option maxHeartbeats 1000000 in
theorem compile_any {fs0 : List Pl.File} {path goal : Pl.Bs} (hF : FsOk fs0 path goal) (a : Option Addr) (cap b o : Nat) (W : World) (ha : 0 < fs0.length → a = some ⟨b, o, none⟩) (hr : RdF W b o fs0) (hbw : b < W.heap.size) (hg : Glob W) :
    Calls Tryz.prog 11 #[.slice a fs0.length cap, .string ⟨path.toArray⟩, .string ⟨goal.toArray⟩] W fun e W' => TextP (fs0.foldl Pl.addF []) path goal W e W' := by
  obtain ⟨M, hM, hf⟩ := hF.text
  obtain ⟨P, hP, hn⟩ := hF.name
  have C := hide (text_any fs0 path goal a cap b o M P W ha hr hbw hF.few hg hf hM hF.many hP hF.long hn)
  clear ha hr hf hn hF
  go_enter Tryz.func11, Tryz.ntmps11
  go_wp2_with fail
  refine (unhide C).mono ?_
  rintro e w1 ⟨r, h1, rfl, h3⟩
  have H := hide (show TextP (fs0.foldl Pl.addF []) path goal W (.returned (.tuple #[.string ⟨r.1.toArray⟩, .int .i64 (r.2.1 : Int), .int .i64 (r.2.2 : Int)])) w1 from ⟨r, h1, rfl, h3⟩)
  clear h1 h3 C
  go_wp2_with fail
  go_ret3
  exact unhide H
/-- What a Run answers; B: from there on lies what it made. -/
def RunRes (l : Pl.Bs) (fs : List Pl.File) (ef : List Pl.Eff) (clock : Int) (B : Nat) (e : Ending) (w' : World) : Prop :=
  (¬ Pl.checkOf l ∧ e = .returned (.tuple #[zRes, .int .i64 9])) ∨
    ∃ ss c vc vr, Pl.load l = some (ss, c) ∧ Pl.checkOf l ∧ e = .returned (.tuple #[.agg #[vc, vr, .int .i64 (Pl.runW c ss ef (Pl.newW fs clock)).exit, .int .i64 (Pl.runW c ss ef (Pl.newW fs clock)).clock], .int .i64 0]) ∧
      Strs w' B vc (Pl.runW c ss ef (Pl.newW fs clock)).cmds ∧ AFls w' B vr (Pl.sortF (Pl.runW c ss ef (Pl.newW fs clock)).files)
section
variable {l : Pl.Bs} {fs : List Pl.File} {ef : List Pl.Eff} {clock : Int} {B : Nat} {e : Ending} {w w' : World}
theorem RunRes.shape (h : RunRes l fs ef clock B e w') : ∃ a1 n1 c1 a2 n2 c2 ex ck er, e = .returned (.tuple #[.agg #[.slice a1 n1 c1, .slice a2 n2 c2, .int .i64 ex, .int .i64 ck], .int .i64 er]) := by
  rcases h with ⟨_, rfl⟩ | ⟨ss, c, vc, vr, _, _, rfl, h4, h5⟩
  · exact ⟨none, 0, 0, none, 0, 0, 0, 0, 9, rfl⟩
  · obtain ⟨a1, c1, rfl⟩ := own_sh h4
    obtain ⟨a2, c2, rfl⟩ := own_sh h5
    exact ⟨a1, _, c1, a2, _, c2, _, _, 0, rfl⟩
theorem RunRes.set {N k : Nat} (h : RunRes l fs ef clock B e w') (hN : N < B) (u : Value) : RunRes l fs ef clock B e (w'.setCell ⟨N, k, none⟩ u) := by
  rcases h with h | ⟨ss, c, vc, vr, h1, h2, h3, h4, h5⟩
  · exact .inl h
  · exact .inr ⟨ss, c, vc, vr, h1, h2, h3, owns_other h4 (own_ne h4 hN) _ _, owns_other h5 (own_ne h5 hN) _ _⟩
theorem RunRes.later (h : RunRes l fs ef clock B e w) (hb : Below w.heap.size w w') : RunRes l fs ef clock B e w' := by
  rcases h with h | ⟨ss, c, vc, vr, h1, h2, h3, h4, h5⟩
  · exact .inl h
  · exact .inr ⟨ss, c, vc, vr, h1, h2, h3, own_same h4 (fun k hk => hb.block k (World.ownsRow.lt h4 k hk).2), own_same h5 (fun k hk => hb.block k (World.ownsRow.lt h5 k hk).2)⟩
theorem RunRes.low {C : Nat} (h : RunRes l fs ef clock B e w) (hC : C ≤ B) : RunRes l fs ef clock C e w := by
  rcases h with h | ⟨ss, c, vc, vr, h1, h2, h3, h4, h5⟩
  · exact .inl h
  · exact .inr ⟨ss, c, vc, vr, h1, h2, h3, own_mono h4 hC, own_mono h5 hC⟩
end
/-- What Make leaves. -/
def MakeP (fs0 : List Pl.File) (path goal : Pl.Bs) (ef : List Pl.Eff) (clock : Int) (W : World) (e : Ending) (W' : World) : Prop :=
  Below W.heap.size W W' ∧ ∃ r, TextR (fs0.foldl Pl.addF []) path goal r ∧ ((r.2.1 ≠ 0 ∧ e = .returned (.tuple #[zRes, .int .i64 (r.2.1 : Int), .int .i64 (r.2.2 : Int)])) ∨
    (r.2.1 = 0 ∧ ∃ v er, e = .returned (.tuple #[v, .int .i64 er, .int .i64 0]) ∧ RunRes r.1 fs0 ef clock W.heap.size (.returned (.tuple #[v, .int .i64 er])) W'))
end Go.Proofs.YtjelacjggijmfaaGreatDoor
namespace Go.Proofs.YtjelacjggijmfaaGreatDoor
open Go.RowKit Go.MapKept Go.ChangeMaps Go.Maps

theorem getD_at (a l : Pl.Bs) (k : Nat) : (a ++ l).getD (a.length + k) 0 = l.getD k 0 := by
  rw [List.getD_eq_getElem?_getD, List.getD_eq_getElem?_getD, List.getElem?_append_right (Nat.le_add_right _ _), Nat.add_sub_cancel_left]
theorem opAt_at (a l : Pl.Bs) (k : Nat) : Pl.opAt (a ++ l) (a.length + k) = Pl.opAt l k := by unfold Pl.opAt; rw [getD_at]
theorem opAt_at0 (a l : Pl.Bs) : Pl.opAt (a ++ l) a.length = Pl.opAt l 0 := opAt_at a l 0
theorem two_at (a l : Pl.Bs) (k : Nat) : Pl.two (a ++ l) (a.length + k) = Pl.two l k := by unfold Pl.two; rw [getD_at, Nat.add_assoc, getD_at]
theorem mkIns_at (a l : Pl.Bs) : Pl.mkIns (a ++ l) a.length = ⟨Pl.opAt l 0, a.length, a.length + Pl.isz (Pl.opAt l 0), (Pl.mkIns l 0).first, (Pl.mkIns l 0).second⟩ := by
  unfold Pl.mkIns
  rw [opAt_at0, opAt_at, two_at, two_at]
/-- From here to there it is sound, if it is from there on. -/
def Seg (c : Pl.Bs) (m p h q h' : Nat) : Prop := ∀ A : Pl.Aw, (∀ x, p ≤ x → x < q → A x = none) → Pl.Spec c m q h' A → Pl.Spec c m p h A
def SegL (m : Nat) (e : Pl.Bs) (h h' : Nat) : Prop := ∀ a b : Pl.Bs, Seg (a ++ (e ++ b)) m a.length h (a.length + e.length) h'
theorem del_none {A : Pl.Aw} {p : Nat} (h : A p = none) : Pl.del A p = A := by
  funext q
  unfold Pl.del
  split
  · rename_i e; rw [e, h]
  · rfl
theorem seg_of (a l : Pl.Bs) (m h : Nat) (hop : Pl.opAt l 0 ≠ 6) (hz : Pl.isz (Pl.opAt l 0) ≠ 0) (hl : Pl.isz (Pl.opAt l 0) ≤ l.length) (hok : Pl.okOps m (Pl.mkIns l 0)) (ht : Pl.taken (Pl.opAt l 0) ≤ h) (hr : Pl.rise (Pl.opAt l 0) h ≤ 16) :
    Seg (a ++ l) m a.length h (a.length + Pl.isz (Pl.opAt l 0)) (Pl.rise (Pl.opAt l 0) h) := fun A hA hs => by
  have h0 : A a.length = none := hA _ (Nat.le_refl _) (by omega)
  rw [Pl.spec_step (by rw [List.length_append]; omega), mkIns_at, opAt_at0]
  refine ⟨fun q hq => (by rw [h0] at hq; cases hq), ⟨by rw [opAt_at0]; exact hz, by rw [opAt_at0, List.length_append]; omega⟩, hok, ht, hr, fun e => absurd e hop, ?_⟩
  unfold Pl.onward
  rw [if_neg (by exact hop)]
  simp only
  rw [del_none h0]
  exact hs
theorem SegL.nil (m h : Nat) : SegL m [] h h := fun _ _ _ _ hs => hs
theorem SegL.comp {m h h1 h2 : Nat} {e1 e2 : Pl.Bs} (x : SegL m e1 h h1) (y : SegL m e2 h1 h2) : SegL m (e1 ++ e2) h h2 := fun a b A hA hs => by
  have k1 := x a (e2 ++ b) A
  have k2 := y (a ++ e1) b A
  rw [List.length_append] at k2 hA hs
  rw [List.append_assoc] at k2 hs ⊢
  exact k1 (fun z h1 h2 => hA z h1 (by omega)) (k2 (fun z h1 h2 => hA z (by omega) (by omega)) (by rw [Nat.add_assoc]; exact hs))
/-- From the beginning of some bytes to their end a run goes so. -/
def Fw (T : List Pl.Bs) (ef : List Pl.Eff) (e : Pl.Bs) (st : List Bool) (fl : Nat → Bool) (X : Pl.Wd) (st' : List Bool) (fl' : Nat → Bool) (X' : Pl.Wd) : Prop :=
  ∀ (a b : Pl.Bs) (R : Pl.Wd), Pl.Ends (a ++ (e ++ b)) T ef a.length st fl X R → Pl.Ends (a ++ (e ++ b)) T ef (a.length + e.length) st' fl' X' R
theorem Fw.nil (T : List Pl.Bs) (ef : List Pl.Eff) (st : List Bool) (fl : Nat → Bool) (X : Pl.Wd) : Fw T ef [] st fl X st fl X := fun _ _ _ h => h
theorem Fw.comp {T : List Pl.Bs} {ef : List Pl.Eff} {e1 e2 : Pl.Bs} {st st1 st2 : List Bool} {fl fl1 fl2 : Nat → Bool} {X X1 X2 : Pl.Wd} (x : Fw T ef e1 st fl X st1 fl1 X1) (y : Fw T ef e2 st1 fl1 X1 st2 fl2 X2) : Fw T ef (e1 ++ e2) st fl X st2 fl2 X2 := fun a b R h => by
  have k1 := x a (e2 ++ b) R
  have k2 := y (a ++ e1) b R
  rw [List.length_append] at k2 ⊢
  rw [List.append_assoc] at k2
  rw [List.append_assoc e1] at h ⊢
  have := k2 (k1 h)
  rw [Nat.add_assoc] at this
  exact this
theorem act_op (T : List Pl.Bs) (ef : List Pl.Eff) (a l : Pl.Bs) (st : List Bool) (fl : Nat → Bool) (X : Pl.Wd) : Pl.act T ef (Pl.mkIns (a ++ l) a.length) st fl X = Pl.act T ef ⟨Pl.opAt l 0, a.length, a.length + Pl.isz (Pl.opAt l 0), (Pl.mkIns l 0).first, (Pl.mkIns l 0).second⟩ st fl X := by rw [mkIns_at]
/-- One instruction that is no skip. -/
theorem fw_of {T : List Pl.Bs} {ef : List Pl.Eff} {e : Pl.Bs} {st st' : List Bool} {fl fl' : Nat → Bool} {X X' : Pl.Wd} (hx : X.exit = 0) (he : 0 < e.length) (h : ∀ a b : Pl.Bs, Pl.act T ef (Pl.mkIns (a ++ (e ++ b)) a.length) st fl X = (a.length + e.length, st', fl', X')) : Fw T ef e st fl X st' fl' X' := fun a b R hr => by
  have := hr.step (by rw [List.length_append, List.length_append]; omega) hx (by rw [h a b]; simp only; omega)
  rw [h a b] at this
  exact this
theorem beB2 (n : Nat) : Cp.beB n 2 = [UInt8.ofNat (n / 256), UInt8.ofNat n] := rfl
theorem two_beB {n : Nat} (h : n < 65536) (x : UInt8) (b : Pl.Bs) : Pl.two (x :: (Cp.beB n 2 ++ b)) 1 = n := by
  rw [beB2]
  unfold Pl.two
  simp only [List.cons_append, List.nil_append, List.getD_cons_succ, List.getD_cons_zero, UInt8.toNat_ofNat']
  omega
theorem two_beB3 {n : Nat} (h : n < 65536) (x : UInt8) (k : Nat) (b : Pl.Bs) : Pl.two (x :: (Cp.beB k 2 ++ (Cp.beB n 2 ++ b))) 3 = n := by
  rw [beB2, beB2]
  unfold Pl.two
  simp only [List.cons_append, List.nil_append, List.getD_cons_succ, List.getD_cons_zero, UInt8.toNat_ofNat']
  omega
def cAbs (k : Nat) : Pl.Bs := 2 :: Cp.beB k 2
def cNew (k j : Nat) : Pl.Bs := 3 :: (Cp.beB k 2 ++ Cp.beB j 2)
def cFlg (f : Nat) : Pl.Bs := [4, UInt8.ofNat f]
def cGive (k : Nat) : Pl.Bs := 7 :: Cp.beB k 2
def cSet (i : Nat) : Pl.Bs := [8, UInt8.ofNat i]
def cSkip (n : Nat) : Pl.Bs := 6 :: Cp.beB n 2
section
variable {T : List Pl.Bs} {ef : List Pl.Eff} {st : List Bool} {fl : Nat → Bool} {X : Pl.Wd}
theorem seg_push (m h : Nat) (hh : h < 16) : SegL m [1, 1] h (h + 1) := fun a b =>
  seg_of a ([1, 1] ++ b) m h (by show (1 : Nat) ≠ 6; decide) (by show (2 : Nat) ≠ 0; decide) (by show 2 ≤ (1 :: 1 :: b).length; simp) ⟨fun _ => (by show (1 : UInt8).toNat ≤ 1; decide), fun e => (by rcases e with e | e <;> cases e), fun e => (by cases e)⟩ (Nat.zero_le _) (by show h - 0 + 1 ≤ 16; omega)
theorem fw_push (hx : X.exit = 0) : Fw T ef [1, 1] st fl X (st ++ [true]) fl X := fw_of hx (by simp) fun a b => by
  rw [act_op]
  rfl
theorem seg_abs {m k : Nat} (hk : k < m) (hk2 : k < 65536) (h : Nat) (hh : h < 16) : SegL m (cAbs k) h (h + 1) := fun a b =>
  seg_of a (cAbs k ++ b) m h (by show (2 : Nat) ≠ 6; decide) (by show (3 : Nat) ≠ 0; decide) (by show 3 ≤ (cAbs k ++ b).length; simp [cAbs, beB2]) ⟨fun e => (by cases e), fun _ => (by show Pl.two (2 :: (Cp.beB k 2 ++ b)) 1 < m; rw [two_beB hk2]; exact hk), fun e => (by cases e)⟩ (Nat.zero_le _) (by show h - 0 + 1 ≤ 16; omega)
theorem fw_abs {k : Nat} (hk2 : k < 65536) (hx : X.exit = 0) : Fw T ef (cAbs k) st fl X (st ++ [(Pl.look X.files (T.getD k [])).isNone]) fl X := fw_of hx (by simp [cAbs]) fun a b => by
  rw [act_op]
  show (a.length + 3, st ++ [(Pl.look X.files (T.getD (Pl.two (2 :: (Cp.beB k 2 ++ b)) 1) [])).isNone], fl, X) = _
  rw [two_beB hk2]
  rfl
theorem seg_flg {m : Nat} (f h : Nat) (hh : h < 16) : SegL m (cFlg f) h (h + 1) := fun a b =>
  seg_of a (cFlg f ++ b) m h (by show (4 : Nat) ≠ 6; decide) (by show (2 : Nat) ≠ 0; decide) (by show 2 ≤ (cFlg f ++ b).length; simp [cFlg]) ⟨fun e => (by cases e), fun e => (by rcases e with e | e <;> cases e), fun e => (by cases e)⟩ (Nat.zero_le _) (by show h - 0 + 1 ≤ 16; omega)
theorem fw_flg {f : Nat} (hf : f < 256) (hx : X.exit = 0) : Fw T ef (cFlg f) st fl X (st ++ [fl f]) fl X := fw_of hx (by simp [cFlg]) fun a b => by
  rw [act_op]
  show (a.length + 2, st ++ [fl (UInt8.ofNat f).toNat], fl, X) = _
  rw [UInt8.toNat_ofNat', Nat.mod_eq_of_lt hf]
  rfl
theorem seg_or {m h : Nat} (hh : h < 15) : SegL m [5] (h + 2) (h + 1) := fun a b =>
  seg_of a ([5] ++ b) m (h + 2) (by show (5 : Nat) ≠ 6; decide) (by show (1 : Nat) ≠ 0; decide) (by show 1 ≤ (5 :: b).length; simp) ⟨fun e => (by cases e), fun e => (by rcases e with e | e <;> cases e), fun e => (by cases e)⟩ (by show 2 ≤ h + 2; omega) (by show h + 2 - 2 + 1 ≤ 16; omega)
theorem fw_or (u v : Bool) (hx : X.exit = 0) : Fw T ef [5] (st ++ [u] ++ [v]) fl X (st ++ [v || u]) fl X := fw_of hx (by simp) fun a b => by
  rw [act_op]
  show (a.length + 1, (st ++ [u] ++ [v]).dropLast.dropLast ++ [(st ++ [u] ++ [v]).getLast?.getD false || (st ++ [u] ++ [v]).dropLast.getLast?.getD false], fl, X) = _
  simp
theorem seg_new {m k j : Nat} (hk : k < m) (hk2 : k < 65536) (hj : j < m) (hj2 : j < 65536) (h : Nat) (hh : h < 16) : SegL m (cNew k j) h (h + 1) := fun a b =>
  seg_of a (cNew k j ++ b) m h (by show (3 : Nat) ≠ 6; decide) (by show (5 : Nat) ≠ 0; decide) (by show 5 ≤ (cNew k j ++ b).length; simp [cNew, beB2]) ⟨fun e => (by cases e), fun e => (by rcases e with e | e <;> cases e), fun _ => (by
    have e1 : Pl.two (cNew k j ++ b) 1 = k := (by unfold cNew; rw [List.cons_append, List.append_assoc, two_beB hk2])
    have e2 : Pl.two (cNew k j ++ b) 3 = j := (by unfold cNew; rw [List.cons_append, List.append_assoc, two_beB3 hj2])
    exact ⟨(by show Pl.two (cNew k j ++ b) 1 < m; rw [e1]; exact hk), (by show Pl.two (cNew k j ++ b) 3 < m; rw [e2]; exact hj)⟩)⟩ (Nat.zero_le _) (by show h - 0 + 1 ≤ 16; omega)
theorem fw_new {k j : Nat} (hk2 : k < 65536) (hj2 : j < 65536) (hx : X.exit = 0) : Fw T ef (cNew k j) st fl X (st ++ [Pl.newer X.files (T.getD k []) (T.getD j [])]) fl X := fw_of hx (by simp [cNew]) fun a b => by
  rw [act_op]
  have e1 : Pl.two (cNew k j ++ b) 1 = k := by unfold cNew; rw [List.cons_append, List.append_assoc, two_beB hk2]
  have e2 : Pl.two (cNew k j ++ b) 3 = j := by unfold cNew; rw [List.cons_append, List.append_assoc, two_beB3 hj2]
  show (a.length + 5, st ++ [Pl.newer X.files (T.getD (Pl.two (cNew k j ++ b) 1) []) (T.getD (Pl.two (cNew k j ++ b) 3) [])], fl, X) = _
  rw [e1, e2]
  rfl
theorem seg_give {m k : Nat} (hk : k < m) (hk2 : k < 65536) (h : Nat) (hh : h ≤ 16) : SegL m (cGive k) h h := fun a b =>
  seg_of a (cGive k ++ b) m h (by show (7 : Nat) ≠ 6; decide) (by show (3 : Nat) ≠ 0; decide) (by show 3 ≤ (cGive k ++ b).length; simp [cGive, beB2]) ⟨fun e => (by cases e), fun _ => (by show Pl.two (7 :: (Cp.beB k 2 ++ b)) 1 < m; rw [two_beB hk2]; exact hk), fun e => (by cases e)⟩ (Nat.zero_le _) (by show h - 0 + 0 ≤ 16; omega)
theorem fw_give {k : Nat} (hk2 : k < 65536) (hx : X.exit = 0) : Fw T ef (cGive k) st fl X st fl (Pl.giveW ef X (T.getD k [])) := fw_of hx (by simp [cGive]) fun a b => by
  rw [act_op]
  show (a.length + 3, st, fl, Pl.giveW ef X (T.getD (Pl.two (7 :: (Cp.beB k 2 ++ b)) 1) [])) = _
  rw [two_beB hk2]
  rfl
theorem seg_set {m : Nat} (i h : Nat) (hh : h ≤ 16) : SegL m (cSet i) h h := fun a b =>
  seg_of a (cSet i ++ b) m h (by show (8 : Nat) ≠ 6; decide) (by show (2 : Nat) ≠ 0; decide) (by show 2 ≤ (cSet i ++ b).length; simp [cSet]) ⟨fun e => (by cases e), fun e => (by rcases e with e | e <;> cases e), fun e => (by cases e)⟩ (Nat.zero_le _) (by show h - 0 + 0 ≤ 16; omega)
theorem fw_set {i : Nat} (hi : i < 256) (hx : X.exit = 0) : Fw T ef (cSet i) st fl X st (fun q => if q = i then true else fl q) X := fw_of hx (by simp [cSet]) fun a b => by
  rw [act_op]
  show (a.length + 2, st, (fun q => if q = (UInt8.ofNat i).toNat then true else fl q), X) = _
  rw [UInt8.toNat_ofNat', Nat.mod_eq_of_lt hi]
  rfl
end
end Go.Proofs.YtjelacjggijmfaaGreatDoor
namespace Go.Proofs.YtjelacjggijmfaaGreatDoor
open Go.RowKit Go.MapKept Go.ChangeMaps Go.Maps

def aw0 : Pl.Aw := fun _ => none
theorem spec_put {c : Pl.Bs} {m p h : Nat} (hs : Pl.Spec c m p h aw0) : Pl.Spec c m p h (Pl.put aw0 p h) := by
  have e : Pl.del (Pl.put aw0 p h) p = Pl.del aw0 p := by
    funext q
    unfold Pl.del Pl.put
    split
    · rfl
    · rfl
  have ha : Pl.agrees (Pl.put aw0 p h) p h := fun q hq => by
    unfold Pl.put at hq
    rw [if_pos rfl] at hq
    cases hq
    rfl
  by_cases hp : p < c.length
  · rw [Pl.spec_step hp] at hs ⊢
    obtain ⟨_, a, b, d, f, g, i⟩ := hs
    refine ⟨ha, a, b, d, f, ?_, ?_⟩
    · rw [e]; exact g
    · unfold Pl.onward at i ⊢
      rw [show (Pl.mkIns c p).at_ = p from rfl] at i ⊢
      rw [e]; exact i
  · rw [Pl.spec_end hp] at hs ⊢
    exact ⟨ha, hs.2.1, fun q hq => by unfold Pl.put; rw [if_neg hq]; rfl⟩
theorem spec_skip {m n : Nat} (a l : Pl.Bs) (hn : n < 65536) (hs : Pl.Spec (a ++ (cSkip n ++ l)) m (a.length + 3) 0 (Pl.put aw0 (a.length + 3 + n) 0)) : Pl.Spec (a ++ (cSkip n ++ l)) m a.length 1 aw0 := by
  have e6 : Pl.opAt (cSkip n ++ l) 0 = 6 := rfl
  have ef : (Pl.mkIns (cSkip n ++ l) 0).first = n := by
    show Pl.two (6 :: (Cp.beB n 2 ++ l)) 1 = n
    exact two_beB hn _ _
  have hd : Pl.del aw0 a.length = aw0 := del_none rfl
  rw [Pl.spec_step (by simp [cSkip]), mkIns_at, opAt_at0, e6, ef]
  refine ⟨fun q hq => (by cases hq), ⟨by rw [opAt_at0, e6]; decide, ?_⟩, ⟨fun e => (by cases e), fun e => (by rcases e with e | e <;> cases e), fun e => (by cases e)⟩, by decide, by decide, fun _ q hq => ?_, ?_⟩
  · rw [opAt_at0, e6]
    show a.length + 3 ≤ _
    simp [cSkip, beB2]
  · rw [hd] at hq; cases hq
  · unfold Pl.onward
    simp only [if_true]
    rw [hd]
    exact hs
/-- What stands for a node. -/
def needC (F K : Pl.Bs → Nat) (name need : Pl.Bs) : Pl.Bs := cFlg (F need) ++ ([5] ++ (cNew (K name) (K need) ++ [5]))
def preC (F K : Pl.Bs → Nat) (ph : Bool) (name : Pl.Bs) (needs : List Pl.Bs) : Pl.Bs := if ph then [1, 1] else cAbs (K name) ++ needs.flatMap (needC F K name)
def givesC (K : Pl.Bs → Nat) (cmds : List Pl.Bs) : Pl.Bs := cmds.flatMap fun c => cGive (K c)
def bodyC (K : Pl.Bs → Nat) (cmds : List Pl.Bs) (i : Nat) : Pl.Bs := givesC K cmds ++ cSet i
def nodeC (F K : Pl.Bs → Nat) (x : Stp) (i : Nat) : Pl.Bs := preC F K x.ph x.name x.needs ++ (cSkip (bodyC K x.cmds i).length ++ bodyC K x.cmds i)
/-- A string has its number. -/
structure KOk (T : List Pl.Bs) (K : Pl.Bs → Nat) (s : Pl.Bs) : Prop where
  lt : K s < T.length
  at_ : T.getD (K s) [] = s
section
variable {T : List Pl.Bs} {F K : Pl.Bs → Nat} {ef : List Pl.Eff}
theorem needC_seg {name need : Pl.Bs} (hT : T.length ≤ 65536) (h1 : KOk T K name) (h2 : KOk T K need) : SegL T.length (needC F K name need) 1 1 :=
  (seg_flg _ 1 (by decide)).comp ((seg_or (h := 0) (by decide)).comp ((seg_new h1.lt (Nat.lt_of_lt_of_le h1.lt hT) h2.lt (Nat.lt_of_lt_of_le h2.lt hT) 1 (by decide)).comp (seg_or (h := 0) (by decide))))
theorem needs_seg {name : Pl.Bs} (hT : T.length ≤ 65536) (h1 : KOk T K name) : ∀ needs : List Pl.Bs, (∀ n ∈ needs, KOk T K n) → SegL T.length (needs.flatMap (needC F K name)) 1 1
  | [], _ => SegL.nil _ _
  | n :: r, h => by
    rw [List.flatMap_cons]
    exact (needC_seg hT h1 (h n (List.mem_cons_self ..))).comp (needs_seg hT h1 r fun y hy => h y (List.mem_cons_of_mem _ hy))
theorem pre_seg {ph : Bool} {name : Pl.Bs} {needs : List Pl.Bs} (hT : T.length ≤ 65536) (h1 : ph = false → KOk T K name) (h2 : ph = false → ∀ n ∈ needs, KOk T K n) : SegL T.length (preC F K ph name needs) 0 1 := by
  unfold preC
  cases ph with
  | true => exact seg_push _ 0 (by decide)
  | false => exact (seg_abs (h1 rfl).lt (Nat.lt_of_lt_of_le (h1 rfl).lt hT) 0 (by decide)).comp (needs_seg hT (h1 rfl) needs (h2 rfl))
theorem gives_seg (hT : T.length ≤ 65536) : ∀ cmds : List Pl.Bs, (∀ c ∈ cmds, KOk T K c) → SegL T.length (givesC K cmds) 0 0
  | [], _ => SegL.nil _ _
  | c :: r, h => by
    unfold givesC
    rw [List.flatMap_cons]
    have hc := h c (List.mem_cons_self ..)
    exact (seg_give hc.lt (Nat.lt_of_lt_of_le hc.lt hT) 0 (by decide)).comp (gives_seg hT r fun y hy => h y (List.mem_cons_of_mem _ hy))
/-- Sound from here on, if it is behind these bytes. -/
def Rest (m : Nat) (e : Pl.Bs) : Prop := ∀ a b : Pl.Bs, Pl.Spec (a ++ (e ++ b)) m (a.length + e.length) 0 aw0 → Pl.Spec (a ++ (e ++ b)) m a.length 0 aw0
theorem Rest.nil (m : Nat) : Rest m [] := fun _ _ h => h
theorem Rest.comp {m : Nat} {e1 e2 : Pl.Bs} (x : Rest m e1) (y : Rest m e2) : Rest m (e1 ++ e2) := fun a b hs => by
  have k1 := x a (e2 ++ b)
  have k2 := y (a ++ e1) b
  rw [List.length_append] at k2 hs
  rw [List.append_assoc] at k2 hs ⊢
  exact k1 (k2 (by rw [Nat.add_assoc]; exact hs))
structure NdK (T : List Pl.Bs) (K : Pl.Bs → Nat) (x : Stp) : Prop where
  name : x.ph = false → KOk T K x.name
  needs : x.ph = false → ∀ n ∈ x.needs, KOk T K n
  cmds : ∀ c ∈ x.cmds, KOk T K c
theorem node_rest {x : Stp} {i : Nat} (hT : T.length ≤ 65536) (h : NdK T K x) (hb : (bodyC K x.cmds i).length < 65536) : Rest T.length (nodeC F K x i) := fun a b hs => by
  unfold nodeC at hs ⊢
  generalize hB : bodyC K x.cmds i = B at *
  have hseg : SegL T.length B 0 0 := by rw [← hB]; exact (gives_seg hT x.cmds h.cmds).comp (seg_set i 0 (by decide))
  have hp := pre_seg (F := F) hT h.name h.needs
  generalize preC F K x.ph x.name x.needs = P at *
  have e3 : (cSkip B.length).length = 3 := rfl
  have e0 : a ++ (P ++ (cSkip B.length ++ B) ++ b) = (a ++ P) ++ (cSkip B.length ++ (B ++ b)) := by simp
  have e1 : a ++ (P ++ (cSkip B.length ++ B) ++ b) = (a ++ P ++ cSkip B.length) ++ (B ++ b) := by simp
  have e2 : a ++ (P ++ (cSkip B.length ++ B) ++ b) = a ++ (P ++ (cSkip B.length ++ B ++ b)) := by simp
  have l1 : a.length + (P ++ (cSkip B.length ++ B)).length = (a ++ P).length + 3 + B.length := by simp only [List.length_append, e3]; omega
  have l2 : (a ++ P ++ cSkip B.length).length = (a ++ P).length + 3 := by simp only [List.length_append, e3]
  rw [l1] at hs
  have s1 := spec_put hs
  have s2 := hseg (a ++ P ++ cSkip B.length) b (Pl.put aw0 ((a ++ P).length + 3 + B.length) 0) (fun z _ h2 => by unfold Pl.put; rw [if_neg (by rw [l2] at h2; omega)]; rfl) (by rw [← e1, l2]; exact s1)
  rw [← e1, l2, e0] at s2
  have s3 := spec_skip (a ++ P) (B ++ b) hb s2
  rw [← e0, e2] at s3
  rw [e2]
  refine hp a (cSkip B.length ++ B ++ b) aw0 (fun _ _ _ => rfl) ?_
  rw [← List.length_append]
  exact s3
/-- Is a node stale? -/
def stB (F : Pl.Bs → Nat) (fl : Nat → Bool) (fs : List Pl.File) (x : Stp) : Bool := x.ph || ((Pl.look fs x.name).isNone || x.needs.any fun n => fl (F n) || Pl.newer fs x.name n)
def gv (ef : List Pl.Eff) : List Pl.Bs → Pl.Wd → Pl.Wd
  | [], X => X
  | c :: r, X => if X.exit = 0 then gv ef r (Pl.giveW ef X c) else X
theorem gv_stop (ef : List Pl.Eff) (cs : List Pl.Bs) (X : Pl.Wd) (h : X.exit ≠ 0) : gv ef cs X = X := by
  cases cs with
  | nil => rfl
  | cons c r => rw [gv, if_neg h]
def doN (ef : List Pl.Eff) (F : Pl.Bs → Nat) (i : Nat) (x : Stp) (s : (Nat → Bool) × Pl.Wd) : (Nat → Bool) × Pl.Wd :=
  if stB F s.1 s.2.files x then ((fun q => if q = i then true else s.1 q), gv ef x.cmds s.2) else s
def doA (ef : List Pl.Eff) (F : Nat → Pl.Bs → Nat) : List Stp → Nat → (Nat → Bool) × Pl.Wd → Pl.Wd
  | [], _, s => s.2
  | x :: r, i, s => if s.2.exit = 0 then doA ef F r (i + 1) (doN ef (F i) i x s) else s.2
theorem or_fold (p : Pl.Bs → Bool) (q : Pl.Bs → Bool) : ∀ (needs : List Pl.Bs) (u : Bool), needs.foldl (fun u n => q n || (p n || u)) u = (u || needs.any fun n => p n || q n)
  | [], u => by simp
  | n :: r, u => by
    rw [List.foldl_cons, or_fold p q r, List.any_cons]
    cases u <;> cases p n <;> cases q n <;> simp
variable {fl : Nat → Bool} {X : Pl.Wd}
theorem needs_fw {name : Pl.Bs} (hT : T.length ≤ 65536) (h1 : KOk T K name) (hx : X.exit = 0) : ∀ (needs : List Pl.Bs) (u : Bool), (∀ n ∈ needs, KOk T K n ∧ F n < 256) → Fw T ef (needs.flatMap (needC F K name)) [u] fl X [needs.foldl (fun u n => Pl.newer X.files name n || (fl (F n) || u)) u] fl X
  | [], _, _ => Fw.nil _ _ _ _ _
  | n :: r, u, h => by
    obtain ⟨hn, hF⟩ := h n (List.mem_cons_self ..)
    rw [List.flatMap_cons, List.foldl_cons]
    have k1 : Fw T ef (cFlg (F n)) [u] fl X ([] ++ [u] ++ [fl (F n)]) fl X := fw_flg hF hx
    have k2 : Fw T ef [5] ([] ++ [u] ++ [fl (F n)]) fl X ([] ++ [fl (F n) || u]) fl X := fw_or u (fl (F n)) hx
    have k3 := fw_new (T := T) (ef := ef) (st := [fl (F n) || u]) (fl := fl) (Nat.lt_of_lt_of_le h1.lt hT) (Nat.lt_of_lt_of_le hn.lt hT) hx
    rw [h1.at_, hn.at_] at k3
    have k4 : Fw T ef [5] ([] ++ [fl (F n) || u] ++ [Pl.newer X.files name n]) fl X ([] ++ [Pl.newer X.files name n || (fl (F n) || u)]) fl X := fw_or _ _ hx
    exact (k1.comp (k2.comp (k3.comp k4))).comp (needs_fw hT h1 hx r _ fun y hy => h y (List.mem_cons_of_mem _ hy))
theorem pre_fw {x : Stp} (hT : T.length ≤ 65536) (h : NdK T K x) (hF : ∀ n ∈ x.needs, F n < 256) (hx : X.exit = 0) : Fw T ef (preC F K x.ph x.name x.needs) [] fl X [stB F fl X.files x] fl X := by
  unfold preC stB
  cases hp : x.ph with
  | true => exact fw_push hx
  | false =>
    have k1 := fw_abs (T := T) (ef := ef) (st := []) (fl := fl) (Nat.lt_of_lt_of_le (h.name hp).lt hT) hx
    rw [(h.name hp).at_] at k1
    have k2 := needs_fw (ef := ef) (fl := fl) hT (h.name hp) hx x.needs ((Pl.look X.files x.name).isNone) fun n hn => ⟨h.needs hp n hn, hF n hn⟩
    rw [or_fold] at k2
    exact k1.comp k2
theorem skip_ends {n : Nat} {R : Pl.Wd} (a l : Pl.Bs) (u : Bool) (hn : n < 65536) (hx : X.exit = 0) (h : Pl.Ends (a ++ (cSkip n ++ l)) T ef a.length [u] fl X R) : Pl.Ends (a ++ (cSkip n ++ l)) T ef (if u then a.length + 3 else a.length + 3 + n) [] fl X R := by
  have e : Pl.act T ef (Pl.mkIns (a ++ (cSkip n ++ l)) a.length) [u] fl X = (if u then a.length + 3 else a.length + 3 + n, [], fl, X) := by
    rw [act_op]
    show (if u then a.length + 3 else a.length + 3 + Pl.two (6 :: (Cp.beB n 2 ++ l)) 1, [], fl, X) = _
    rw [two_beB hn]
  have := h.step (by simp [cSkip]) hx (by rw [e]; cases u <;> simp <;> omega)
  rw [e] at this
  exact this
theorem gives_ends (hT : T.length ≤ 65536) : ∀ (cmds : List Pl.Bs) (X : Pl.Wd) (a b : Pl.Bs) (R : Pl.Wd), (∀ c ∈ cmds, KOk T K c) → X.exit = 0 → Pl.Ends (a ++ (givesC K cmds ++ b)) T ef a.length [] fl X R → ((gv ef cmds X).exit = 0 ∧ Pl.Ends (a ++ (givesC K cmds ++ b)) T ef (a.length + (givesC K cmds).length) [] fl (gv ef cmds X) R) ∨ ((gv ef cmds X).exit ≠ 0 ∧ R = gv ef cmds X)
  | [], X, a, b, R, _, hx, h => .inl ⟨hx, h⟩
  | c :: r, X, a, b, R, hk, hx, h => by
    have hc := hk c (List.mem_cons_self ..)
    have eg : givesC K (c :: r) = cGive (K c) ++ givesC K r := by unfold givesC; rw [List.flatMap_cons]
    rw [eg] at h ⊢
    rw [List.append_assoc] at h ⊢
    have h1 := fw_give (Nat.lt_of_lt_of_le hc.lt hT) hx a (givesC K r ++ b) R h
    rw [hc.at_] at h1
    rw [gv, if_pos hx]
    by_cases h0 : (Pl.giveW ef X c).exit = 0
    · have := gives_ends hT r (Pl.giveW ef X c) (a ++ cGive (K c)) b R (fun y hy => hk y (List.mem_cons_of_mem _ hy)) h0 (by rw [List.length_append, List.append_assoc]; exact h1)
      rw [List.length_append, List.append_assoc] at this
      rw [List.length_append, ← Nat.add_assoc]
      exact this
    · rw [gv_stop _ _ _ h0]
      exact .inr ⟨h0, (h1.stop fun q => h0 q.2).symm⟩
theorem node_ends {x : Stp} {i : Nat} {R : Pl.Wd} (hT : T.length ≤ 65536) (h : NdK T K x) (hF : ∀ n ∈ x.needs, F n < 256) (hi : i < 256) (hb : (bodyC K x.cmds i).length < 65536) (hx : X.exit = 0) (a b : Pl.Bs)
    (hr : Pl.Ends (a ++ (nodeC F K x i ++ b)) T ef a.length [] fl X R) : ((doN ef F i x (fl, X)).2.exit = 0 ∧ Pl.Ends (a ++ (nodeC F K x i ++ b)) T ef (a.length + (nodeC F K x i).length) [] (doN ef F i x (fl, X)).1 (doN ef F i x (fl, X)).2 R) ∨ ((doN ef F i x (fl, X)).2.exit ≠ 0 ∧ R = (doN ef F i x (fl, X)).2) := by
  have hp := pre_fw (ef := ef) (fl := fl) hT h hF hx
  unfold nodeC at hr ⊢
  generalize preC F K x.ph x.name x.needs = P at *
  have hB : bodyC K x.cmds i = givesC K x.cmds ++ cSet i := rfl
  generalize hBn : bodyC K x.cmds i = B at *
  have e3 : (cSkip B.length).length = 3 := rfl
  have e0 : a ++ (P ++ (cSkip B.length ++ B) ++ b) = (a ++ P) ++ (cSkip B.length ++ (B ++ b)) := by simp
  have e2 : a ++ (P ++ (cSkip B.length ++ B) ++ b) = a ++ (P ++ (cSkip B.length ++ B ++ b)) := by simp
  have e4 : a ++ (P ++ (cSkip B.length ++ B) ++ b) = (a ++ P ++ cSkip B.length) ++ (givesC K x.cmds ++ (cSet i ++ b)) := by rw [hB]; simp
  have e5 : a ++ (P ++ (cSkip B.length ++ B) ++ b) = (a ++ P ++ cSkip B.length ++ givesC K x.cmds) ++ (cSet i ++ b) := by rw [hB]; simp
  have l1 : a.length + (P ++ (cSkip B.length ++ B)).length = (a ++ P).length + 3 + B.length := by simp only [List.length_append, e3]; omega
  have l2 : (a ++ P ++ cSkip B.length).length = (a ++ P).length + 3 := by simp only [List.length_append, e3]
  rw [e2] at hr
  have h1 := hp a (cSkip B.length ++ B ++ b) R hr
  rw [← e2, e0, ← List.length_append] at h1
  have h2 := skip_ends (a ++ P) (B ++ b) _ hb hx h1
  unfold doN
  cases hs : stB F fl X.files x with
  | false =>
    simp only [hs, Bool.false_eq_true, if_false] at h2 ⊢
    refine .inl ⟨hx, ?_⟩
    rw [l1, e0]
    exact h2
  | true =>
    simp only [hs, if_true] at h2 ⊢
    rw [← e0, e4, ← l2] at h2
    rcases gives_ends hT x.cmds X (a ++ P ++ cSkip B.length) (cSet i ++ b) R h.cmds hx h2 with ⟨q1, q2⟩ | ⟨q1, q2⟩
    · refine .inl ⟨q1, ?_⟩
      rw [← e4, e5, ← List.length_append] at q2
      have h3 := fw_set hi q1 (a ++ P ++ cSkip B.length ++ givesC K x.cmds) b R q2
      rw [l1, e5]
      have l5 : (a ++ P ++ cSkip B.length ++ givesC K x.cmds).length + (cSet i).length = (a ++ P).length + 3 + B.length := by
        have hBl : B.length = (givesC K x.cmds).length + (cSet i).length := by rw [hB, List.length_append]
        simp only [List.length_append, e3]; omega
      rw [← l5]
      exact h3
    · exact .inr ⟨q1, q2⟩
end
end Go.Proofs.YtjelacjggijmfaaGreatDoor
namespace Go.Proofs.YtjelacjggijmfaaGreatDoor
open Go.RowKit Go.MapKept Go.ChangeMaps Go.Maps

def kOf (T : List Pl.Bs) (s : Pl.Bs) : Nat := (T.findIdx? (fun x => x == s)).getD T.length
/-- Strings are among those, and nothing was too much. -/
structure Gd (T : List Pl.Bs) (q : Cp.Wr) : Prop where
  pre : q.strs <+: T
  ok : q.failed = false
theorem addW_code (p : Cp.Wr) (op : Nat) (os : List Nat) : (addW p op os).code = p.code ++ (UInt8.ofNat op :: (Cp.beB (os.getD 0 0) (wdAt op 0) ++ Cp.beB (os.getD 1 0) (wdAt op 1))) := by
  show (p.code ++ [UInt8.ofNat op] ++ Cp.beB (os.getD 0 0) (wdAt op 0)) ++ Cp.beB (os.getD 1 0) (wdAt op 1) = _
  simp
theorem addW_failed (p : Cp.Wr) (op : Nat) (os : List Nat) : (addW p op os).failed = ((p.failed || Cp.big (os.getD 0 0) (wdAt op 0)) || Cp.big (os.getD 1 0) (wdAt op 1)) := rfl
section
variable {T : List Pl.Bs} {q : Cp.Wr}
theorem Gd.add {op : Nat} {os : List Nat} (h : Gd T (addW q op os)) : Gd T q ∧ Cp.big (os.getD 0 0) (wdAt op 0) = false ∧ Cp.big (os.getD 1 0) (wdAt op 1) = false := by
  have h1 := h.pre
  have h2 := h.ok
  rw [addW_strs] at h1
  rw [addW_failed, Bool.or_eq_false_iff, Bool.or_eq_false_iff] at h2
  exact ⟨⟨h1, h2.1.1⟩, h2.1.2, h2.2⟩
theorem kOf_prefix {ss : List Pl.Bs} {s : Pl.Bs} {i : Nat} (h : ss <+: T) (hf : ss.findIdx? (fun x => x == s) = some i) : kOf T s = i ∧ KOk T (kOf T) s := by
  obtain ⟨r, rfl⟩ := h
  have e : (ss ++ r).findIdx? (fun x => x == s) = some i := by rw [List.findIdx?_append, hf]; rfl
  have hk : kOf (ss ++ r) s = i := by unfold kOf; rw [e]; rfl
  obtain ⟨h1, h2, _⟩ := List.findIdx?_eq_some_iff_getElem.1 e
  refine ⟨hk, ⟨by rw [hk]; exact h1, ?_⟩⟩
  rw [hk, List.getD_eq_getElem?_getD, List.getElem?_eq_getElem h1]
  exact beq_iff_eq.1 h2
theorem Gd.str {s : Pl.Bs} (h : Gd T (q.str s)) : Gd T q ∧ q.num s = kOf T s ∧ KOk T (kOf T) s := by
  have h1 := h.pre
  have h2 := h.ok
  unfold Cp.Wr.str at h1 h2
  unfold Cp.Wr.num
  cases hf : q.strs.findIdx? (fun x => x == s) with
  | some i =>
    rw [hf] at h1 h2
    obtain ⟨k1, k2⟩ := kOf_prefix h1 hf
    exact ⟨⟨h1, h2⟩, k1.symm, k2⟩
  | none =>
    rw [hf] at h1 h2
    have e : (q.strs ++ [s]).findIdx? (fun x => x == s) = some q.strs.length := by
      rw [List.findIdx?_append, hf]
      simp [List.findIdx?_cons]
    obtain ⟨k1, k2⟩ := kOf_prefix h1 e
    exact ⟨⟨(List.prefix_append _ _).trans h1, h2⟩, k1.symm, k2⟩
theorem big_not {n w : Nat} (h : Cp.big n w = false) : n < 256 ^ w := by
  unfold Cp.big at h
  have := of_decide_eq_false h
  omega
theorem gives_good : ∀ (cmds : List Pl.Bs) (q : Cp.Wr), Gd T (cmds.foldl giveStep q) → Gd T q ∧ (cmds.foldl giveStep q).code = q.code ++ givesC (kOf T) cmds ∧ ∀ c ∈ cmds, KOk T (kOf T) c
  | [], q, h => ⟨h, by simp [givesC], fun c hc => by cases hc⟩
  | c :: r, q, h => by
    obtain ⟨h1, h2, h3⟩ := gives_good r (giveStep q c) h
    obtain ⟨k1, -, -⟩ := h1.add
    obtain ⟨k4, k5, k6⟩ := k1.str
    refine ⟨k4, ?_, fun y hy => ?_⟩
    · rw [List.foldl_cons, h2]
      unfold giveStep
      rw [addW_code, str_code, k5]
      unfold givesC
      rw [List.flatMap_cons, List.append_assoc]
      rfl
    · rcases List.mem_cons.1 hy with e | e
      · rw [e]; exact k6
      · exact h3 y e
theorem needs_good (fl : Flags) (name : Pl.Bs) : ∀ (needs : List Pl.Bs) (q : Cp.Wr), Gd T (needs.foldl (staleStep fl (kOf T name)) q) → Gd T q ∧ (needs.foldl (staleStep fl (kOf T name)) q).code = q.code ++ needs.flatMap (needC (flagOf fl) (kOf T) name) ∧ ∀ n ∈ needs, KOk T (kOf T) n ∧ flagOf fl n < 256
  | [], q, h => ⟨h, by simp, fun c hc => by cases hc⟩
  | n :: r, q, h => by
    obtain ⟨h1, h2, h3⟩ := needs_good fl name r (staleStep fl (kOf T name) q n) h
    unfold staleStep at h1
    obtain ⟨k1, -, -⟩ := h1.add
    obtain ⟨k2, -, -⟩ := k1.add
    obtain ⟨k3, k4, k5⟩ := k2.str
    obtain ⟨k6, -, -⟩ := k3.add
    obtain ⟨k7, k8, -⟩ := k6.add
    refine ⟨k7, ?_, fun y hy => ?_⟩
    · rw [List.foldl_cons, h2]
      unfold staleStep
      rw [addW_code, addW_code, str_code, addW_code, addW_code, k4, List.flatMap_cons, ← List.append_assoc]
      congr 1
      simp only [List.append_assoc]
      rfl
    · rcases List.mem_cons.1 hy with e | e
      · rw [e]; exact ⟨k5, big_not k8⟩
      · exact h3 y e
theorem stale_good (fl : Flags) (x : Stp) (h : Gd T (staleW fl q x.ph x.name x.needs)) : Gd T q ∧ (staleW fl q x.ph x.name x.needs).code = q.code ++ preC (flagOf fl) (kOf T) x.ph x.name x.needs ∧ (x.ph = false → KOk T (kOf T) x.name) ∧ (x.ph = false → ∀ n ∈ x.needs, KOk T (kOf T) n ∧ flagOf fl n < 256) := by
  unfold staleW at h ⊢
  unfold preC
  cases hp : x.ph with
  | true =>
    rw [hp] at h
    simp only [if_true] at h ⊢
    obtain ⟨k1, -, -⟩ := h.add
    exact ⟨k1, by rw [addW_code]; rfl, fun e => (by cases e), fun e => (by cases e)⟩
  | false =>
    rw [hp] at h
    simp only [Bool.false_eq_true, if_false] at h ⊢
    have hm : ∀ (needs : List Pl.Bs) (nm : Nat) (p : Cp.Wr), Gd T (needs.foldl (staleStep fl nm) p) → Gd T p := fun needs nm => by
      induction needs with
      | nil => exact fun p hh => hh
      | cons n r ih =>
        intro p hh
        have h1 := ih _ hh
        unfold staleStep at h1
        exact h1.add.1.add.1.str.1.add.1.add.1
    obtain ⟨k1, k2, k3⟩ := (hm _ _ _ h).add.1.str
    rw [k2] at h ⊢
    obtain ⟨-, j2, j3⟩ := needs_good fl x.name x.needs _ h
    refine ⟨k1, ?_, fun _ => k3, fun _ => j3⟩
    rw [j2, addW_code, str_code, List.append_assoc]
    rfl
theorem skip_good (cmds : List Pl.Bs) (i : Nat) (h : Gd T (skipW q cmds i)) : Gd T q ∧ (skipW q cmds i).code = q.code ++ (cSkip (bodyC (kOf T) cmds i).length ++ bodyC (kOf T) cmds i) ∧ (∀ c ∈ cmds, KOk T (kOf T) c) ∧ (bodyC (kOf T) cmds i).length < 65536 ∧ i < 256 := by
  have hf := h.ok
  unfold skipW fixW at hf
  rw [Bool.or_eq_false_iff] at hf
  have hb : Gd T (blockW (addW q 6 []) cmds i) := ⟨h.pre, hf.1⟩
  unfold blockW at hb
  obtain ⟨k1, k2, -⟩ := hb.add
  obtain ⟨j1, j2, j3⟩ := gives_good cmds _ k1
  have hc : (blockW (addW q 6 []) cmds i).code = q.code ++ ([6, 0, 0] ++ bodyC (kOf T) cmds i) := by
    unfold blockW bodyC
    rw [addW_code, j2, addW_code]
    simp only [List.append_assoc]
    rfl
  have hlen : (blockW (addW q 6 []) cmds i).code.length - (q.code.length + 1 + 2) = (bodyC (kOf T) cmds i).length := by
    rw [hc]
    simp only [List.length_append, List.length_cons, List.length_nil]
    omega
  have hm := big_not hf.2
  rw [hlen] at hm
  refine ⟨j1.add.1, ?_, j3, hm, big_not k2⟩
  unfold skipW fixW
  simp only
  rw [hlen, hc]
  have e1 : (q.code ++ ([6, 0, 0] ++ bodyC (kOf T) cmds i)).take (q.code.length + 1) = q.code ++ [6] := by
    rw [List.take_append, List.take_of_length_le (by omega), Nat.add_sub_cancel_left]
    rfl
  have e2 : (q.code ++ ([6, 0, 0] ++ bodyC (kOf T) cmds i)).drop (q.code.length + 1 + 2) = bodyC (kOf T) cmds i := by
    rw [List.drop_append, List.drop_eq_nil_of_le (by omega), show q.code.length + 1 + 2 - q.code.length = 3 by omega]
    rfl
  rw [e1, e2, List.append_assoc]
  rfl
end
/-- The flags' numbers when a step is written. -/
def fOf (ss : List Stp) (i : Nat) : Pl.Bs → Nat := flagOf (writeAt ss (i + 1)).2
def allC (F : Nat → Pl.Bs → Nat) (K : Pl.Bs → Nat) : List Stp → Nat → Pl.Bs
  | [], _ => []
  | x :: r, i => nodeC (F i) K x i ++ allC F K r (i + 1)
theorem allC_snoc (F : Nat → Pl.Bs → Nat) (K : Pl.Bs → Nat) (x : Stp) : ∀ (ss : List Stp) (i : Nat), allC F K (ss ++ [x]) i = allC F K ss i ++ nodeC (F (i + ss.length)) K x (i + ss.length)
  | [], i => by simp [allC]
  | y :: r, i => by
    rw [List.cons_append, allC, allC, allC_snoc F K x r (i + 1), List.append_assoc, List.length_cons]
    rw [show i + 1 + r.length = i + (r.length + 1) by omega]
structure StK (T : List Pl.Bs) (F : Nat → Pl.Bs → Nat) (x : Stp) (i : Nat) : Prop where
  k : NdK T (kOf T) x
  f : x.ph = false → ∀ n ∈ x.needs, F i n < 256
  b : (bodyC (kOf T) x.cmds i).length < 65536
  n : i < 256
theorem write_good {T : List Pl.Bs} (ss : List Stp) : ∀ j, j ≤ ss.length → Gd T (writeAt ss j).1 → (writeAt ss j).1.code = allC (fOf ss) (kOf T) (ss.take j) 0 ∧ ∀ i (h : i < ss.length), i < j → StK T (fOf ss) ss[i] i
  | 0, _, _ => ⟨by simp [writeAt, allC], fun i _ hi => by omega⟩
  | j + 1, hj, h => by
    have hl : j < ss.length := by omega
    have e := writeAt_next ss j hl
    have ef : fOf ss j = flagOf (flPut (writeAt ss j).2 ss[j].name j) := by unfold fOf; rw [e]
    rw [e] at h ⊢
    simp only at h ⊢
    obtain ⟨k1, k2, k3, k4, k5⟩ := skip_good _ _ h
    obtain ⟨j1, j2, j3, j4⟩ := stale_good _ ss[j] k1
    obtain ⟨i1, i2⟩ := write_good ss j (by omega) j1
    refine ⟨?_, fun i hi hij => ?_⟩
    · rw [k2, j2, i1, List.take_succ_eq_append_getElem hl, allC_snoc, List.length_take, Nat.min_eq_left (by omega), Nat.zero_add, ef]
      unfold nodeC
      rw [List.append_assoc]
    · by_cases hj2 : i < j
      · exact i2 i hi hj2
      · obtain rfl : i = j := by omega
        exact ⟨⟨j3, fun p n hn => (j4 p n hn).1, k3⟩, fun p n hn => by rw [ef]; exact (j4 p n hn).2, k4, k5⟩
theorem all_rest {T : List Pl.Bs} {F : Nat → Pl.Bs → Nat} (hT : T.length ≤ 65536) : ∀ (ss : List Stp) (i : Nat), (∀ j (h : j < ss.length), StK T F ss[j] (i + j)) → Rest T.length (allC F (kOf T) ss i)
  | [], _, _ => Rest.nil _
  | x :: r, i, h => by
    have h0 := h 0 (Nat.succ_pos _)
    rw [allC]
    refine (node_rest hT h0.k h0.b).comp (all_rest hT r (i + 1) fun j hj => ?_)
    have := h (j + 1) (by simpa using hj)
    rw [show i + (j + 1) = i + 1 + j by omega] at this
    exact this
theorem stB_ph {F G : Pl.Bs → Nat} {fl : Nat → Bool} {fs : List Pl.File} {x : Stp} (h : x.ph = true) : stB F fl fs x = stB G fl fs x := by unfold stB; rw [h]; rfl
theorem pre_ph {F K : Pl.Bs → Nat} {x : Stp} (i : Nat) (h : x.ph = true) : nodeC F K x i = nodeC (fun _ => 0) K x i := by unfold nodeC preC; rw [h]; rfl
theorem node_ends' {T : List Pl.Bs} {F : Nat → Pl.Bs → Nat} {ef : List Pl.Eff} {x : Stp} {i : Nat} {R X : Pl.Wd} {fl : Nat → Bool} (hT : T.length ≤ 65536) (h : StK T F x i) (hx : X.exit = 0) (a b : Pl.Bs)
    (hr : Pl.Ends (a ++ (nodeC (F i) (kOf T) x i ++ b)) T ef a.length [] fl X R) : ((doN ef (F i) i x (fl, X)).2.exit = 0 ∧ Pl.Ends (a ++ (nodeC (F i) (kOf T) x i ++ b)) T ef (a.length + (nodeC (F i) (kOf T) x i).length) [] (doN ef (F i) i x (fl, X)).1 (doN ef (F i) i x (fl, X)).2 R) ∨ ((doN ef (F i) i x (fl, X)).2.exit ≠ 0 ∧ R = (doN ef (F i) i x (fl, X)).2) := by
  cases hp : x.ph with
  | false => exact node_ends hT h.k (h.f hp) h.n h.b hx a b hr
  | true =>
    rw [pre_ph i hp] at hr ⊢
    have := node_ends (F := fun _ => 0) hT h.k (fun _ _ => by decide) h.n h.b hx a b hr
    unfold doN at this ⊢
    rw [stB_ph (G := F i) hp] at this
    exact this
theorem all_ends {T : List Pl.Bs} {F : Nat → Pl.Bs → Nat} {ef : List Pl.Eff} (hT : T.length ≤ 65536) : ∀ (ss : List Stp) (i : Nat) (fl : Nat → Bool) (X R : Pl.Wd) (a : Pl.Bs), (∀ j (h : j < ss.length), StK T F ss[j] (i + j)) → X.exit = 0 → Pl.Ends (a ++ allC F (kOf T) ss i) T ef a.length [] fl X R → R = doA ef F ss i (fl, X)
  | [], i, fl, X, R, a, _, _, hr => by
    rw [allC, List.append_nil] at hr
    exact (hr.stop fun q => by omega).symm
  | x :: r, i, fl, X, R, a, h, hx, hr => by
    have h0 := h 0 (Nat.succ_pos _)
    rw [allC] at hr
    rw [doA, if_pos hx]
    rcases node_ends' hT h0 hx a _ hr with ⟨q1, q2⟩ | ⟨q1, q2⟩
    · refine all_ends hT r (i + 1) _ _ R (a ++ nodeC (F i) (kOf T) x i) (fun j hj => ?_) q1 ?_
      · have := h (j + 1) (by simpa using hj)
        rw [show i + (j + 1) = i + 1 + j by omega] at this
        exact this
      · rw [List.length_append, List.append_assoc]
        exact q2
    · rw [q2]
      cases r with
      | nil => rfl
      | cons y s =>
        rw [doA]
        exact (if_neg q1).symm
theorem strs_of (c : Pl.Bs) : ∀ T : List Pl.Bs, (∀ s ∈ T, s.length < 65536) → Pl.strs T.length (strsW T ++ c) = some (T, c)
  | [], _ => rfl
  | s :: r, h => by
    have ih := strs_of c r fun y hy => h y (List.mem_cons_of_mem _ hy)
    have hs := h s (List.mem_cons_self ..)
    have e : strsW (s :: r) ++ c = Cp.beB s.length 2 ++ (s ++ (strsW r ++ c)) := by
      unfold strsW
      rw [List.flatMap_cons]
      simp
    have e2 : Pl.two (Cp.beB s.length 2 ++ (s ++ (strsW r ++ c))) 0 = s.length := by
      have := two_beB hs 0 (s ++ (strsW r ++ c))
      unfold Pl.two at this ⊢
      exact this
    rw [List.length_cons, e, Pl.strs, e2, if_pos ⟨by simp [beB2], by simp only [beB2, List.length_append, List.length_cons, List.length_nil]; omega⟩]
    have d1 : (Cp.beB s.length 2 ++ (s ++ (strsW r ++ c))).drop (2 + s.length) = strsW r ++ c := by
      rw [← List.drop_drop]
      show (s ++ (strsW r ++ c)).drop s.length = _
      exact List.drop_left
    have d2 : ((Cp.beB s.length 2 ++ (s ++ (strsW r ++ c))).drop 2).take s.length = s := by
      show (s ++ (strsW r ++ c)).take s.length = s
      exact List.take_left
    rw [d1, d2, ih]
    rfl
/-- A plan that is written is sound, and does what is told of the nodes in their order. -/
theorem plan_is {ss : List Stp} {p : Pl.Bs} (h : planW ss = some p) : ∃ T c, Pl.load p = some (T, c) ∧ Pl.checkOf p ∧ ∀ ef X, X.exit = 0 → Pl.runW c T ef X = doA ef (fOf ss) ss 0 ((fun _ => false), X) := by
  unfold planW textW at h
  generalize hw : (writeAt ss ss.length).1 = w at h
  split at h
  · cases h
  · rename_i hn
    cases h
    rw [Bool.not_eq_true, Bool.or_eq_false_iff] at hn
    obtain ⟨hf, hd⟩ := hn
    unfold failW at hf
    rw [Bool.or_eq_false_iff, Bool.or_eq_false_iff, List.take_length] at hf
    have h1000 : w.strs.length ≤ 1000 := by have := of_decide_eq_false hd; omega
    have hs : ∀ s ∈ w.strs, s.length < 65536 := fun s hs => by
      have := List.any_eq_false.1 hf.2 s hs
      exact big_not (by simpa using this)
    obtain ⟨g1, g2⟩ := write_good (T := w.strs) ss ss.length (Nat.le_refl _) (by rw [hw]; exact ⟨List.prefix_refl _, hf.1.1⟩)
    rw [hw, List.take_length] at g1
    have hl : Pl.load (outW w.strs w.strs.length ++ w.code) = some (w.strs, w.code) := by
      unfold outW
      rw [List.take_length]
      have e2 : Pl.two ([80, 49] ++ Cp.beB w.strs.length 2 ++ strsW w.strs ++ w.code) 2 = w.strs.length := by
        have := two_beB (n := w.strs.length) (by omega) 0 (strsW w.strs ++ w.code)
        unfold Pl.two at this ⊢
        rw [List.append_assoc, List.append_assoc]
        exact this
      unfold Pl.load
      rw [e2, if_pos ⟨by simp [beB2], rfl, h1000⟩]
      have : ([80, 49] ++ Cp.beB w.strs.length 2 ++ strsW w.strs ++ w.code).drop 4 = strsW w.strs ++ w.code := by
        rw [List.append_assoc, List.append_assoc]
        rfl
      rw [this]
      exact strs_of _ _ hs
    have hst : ∀ j (hj : j < ss.length), StK w.strs (fOf ss) ss[j] (0 + j) := fun j hj => by rw [Nat.zero_add]; exact g2 j hj hj
    refine ⟨w.strs, w.code, hl, ⟨_, hl, ?_⟩, fun ef X hx => ?_⟩
    · have := all_rest (by omega) ss 0 hst [] []
      rw [List.append_nil, List.nil_append] at this
      simp only
      rw [g1]
      exact this ((Pl.spec_end (by simp)).2 ⟨fun q hq => (by cases hq), rfl, fun _ _ => rfl⟩)
    · have he := Pl.Ends.start w.code w.strs ef X
      refine all_ends (by omega) ss 0 _ X _ [] hst hx ?_
      rw [List.nil_append, ← g1]
      exact he
end Go.Proofs.YtjelacjggijmfaaGreatDoor
namespace Go.Proofs.YtjelacjggijmfaaGreatDoor
open Go.RowKit Go.MapKept Go.ChangeMaps Go.Maps

def liveF : List Pl.File := [⟨[82], [97, 58, 10, 9, 98], 0⟩]
theorem exp_free {L : NL} {t : Pl.Bs} (h : Mk.has 36 t = false) (hl : (Mk.before 36 t).length ≤ 2000) : expE L t = ⟨Mk.before 36 t, 0, 0⟩ := by
  refine expE_eq ?_
  have := Cp.Exp.free (N := nOf L) (sg := fun _ => none) (m := []) (k := 0) (a := []) h
  have e1 : Cp.addB [] (Mk.before 36 t) = Mk.before 36 t := rfl
  rw [e1] at this
  unfold Cp.toldB at this
  rw [if_neg (by omega)] at this
  exact this
def liveS : St := { explicitF { st0 with n := 1, rules := [⟨[[97]], [], []⟩] } [[97]] 0 with rules := [⟨[[97]], [], [([98], 2)]⟩] }
theorem live_book : bookF liveF [82] = (0, 0, liveS) := by
  have e1 : expE [] [97] = ⟨[97], 0, 0⟩ := exp_free rfl (by decide)
  have e2 : expE [] [] = ⟨[], 0, 0⟩ := exp_free rfl (by decide)
  have ha : Mk.allF (Mk.joined [97, 58, 10, 9, 98]) = [(⟨1, 5, [97], []⟩, 0), (⟨2, 1, [], [98]⟩, 0)] := by rfl
  have hr : ruleF st0 ⟨1, 5, [97], []⟩ = (0, some 0, explicitF { st0 with n := 1, rules := [⟨[[97]], [], []⟩] } [[97]] 0) := by
    unfold ruleF
    simp only [show st0.names = [] from rfl]
    rw [e1, e2]
    rfl
  show readF liveF 3 st0 [97, 58, 10, 9, 98] = _
  rw [readF, ha, linesF]
  have h1 : lineF (readF liveF 2) liveF st0 none ⟨1, 5, [97], []⟩ = (0, 1, some 0, explicitF { st0 with n := 1, rules := [⟨[[97]], [], []⟩] } [[97]] 0) := by
    unfold lineF
    rw [if_neg (by decide), if_pos rfl, hr]
  simp only
  rw [h1, if_neg (by simp), if_neg (by simp), linesF]
  rfl
def liveX : List Stp := [⟨[97], false, [], [], [[98]]⟩]
theorem live_from {q : Nat × Wst} (h : FromR liveS liveF (usL liveS liveF liveS.pats) (enterF liveS liveF (usL liveS liveF liveS.pats) wst0 [97]) q) : q.1 = 0 ∧ q.2.over = [⟨[97], false, [], [], [([98], 2)]⟩] := by
  obtain ⟨n, hn⟩ := h
  match n, hn with
  | 0, hn => exact absurd hn (by rw [show fromF liveS liveF (usL liveS liveF liveS.pats) 0 (enterF liveS liveF (usL liveS liveF liveS.pats) wst0 [97]) = none from rfl]; simp)
  | n + 1, hn =>
    have : fromF liveS liveF (usL liveS liveF liveS.pats) (n + 1) (enterF liveS liveF (usL liveS liveF liveS.pats) wst0 [97]) = some (0, ⟨[([97], 2)], [], [⟨[97], false, [], [], [([98], 2)]⟩]⟩) := by
      rw [fromF, if_neg (by simp [enterF]; decide)]
      cases n with
      | zero => rfl
      | succ n => rfl
    rw [this] at hn
    cases hn
    exact ⟨rfl, rfl⟩
theorem live_plan : ∃ p, planW liveX = some p ∧ p.length ≤ 100 := by
  have h : (planW liveX).isSome = true ∧ ((planW liveX).getD []).length ≤ 100 := by decide
  cases hp : planW liveX with
  | none => rw [hp] at h; cases h.1
  | some p => rw [hp] at h; exact ⟨p, rfl, h.2⟩
theorem live_text {r : Pl.Bs × Nat × Nat} (h : TextR liveF [82] [97] r) : ∃ p, planW liveX = some p ∧ r = (p, 0, 0) := by
  obtain ⟨p, hp, -⟩ := live_plan
  refine ⟨p, hp, ?_⟩
  unfold TextR at h
  rw [live_book] at h
  rcases h with ⟨h1, -⟩ | ⟨-, h⟩
  · exact absurd rfl h1
  · have hg : goalF liveS [97] = [97] := rfl
    simp only at h
    rw [hg] at h
    rcases h with ⟨h1, -⟩ | ⟨-, h1, -⟩ | ⟨-, -, q, hq, h⟩
    · cases h1
    · exact absurd h1 (by decide)
    · obtain ⟨q1, q2⟩ := live_from hq
      rw [q2] at h
      rcases h with ⟨h1, -⟩ | ⟨-, h1, -⟩ | ⟨-, -, R, hR, h⟩
      · exact absurd q1 h1
      · exact absurd h1 (by decide)
      · obtain ⟨G, hG, hR⟩ := hR
        obtain ⟨e, he, hG⟩ := hG
        have hx : Cp.Exp (nOf liveS.names) (Nod.sg ⟨[97], false, [], [], [([98], 2)]⟩) [] 0 [] [98] ⟨[98], 0, 0⟩ := Cp.Exp.free rfl
        obtain rfl := he.det hx
        rw [if_neg (by decide), if_neg (by decide)] at hG
        have hG' : G = .inr (1, [[98]]) := hG
        subst hG'
        have hR' : R = .inr (1, liveX) := hR
        subst hR'
        rcases h with ⟨h1, -⟩ | ⟨-, h⟩
        · exact absurd h1 (by decide)
        · rw [hp] at h
          exact h
end Go.Proofs.YtjelacjggijmfaaGreatDoor
namespace Go.Proofs.YtjelacjggijmfaaGreatDoor
open Go.RowKit Go.MapKept Go.ChangeMaps Go.Maps

set_option maxHeartbeats 2000000 in
set_option maxRecDepth 20000 in
theorem make_any {fs0 : List Pl.File} {path goal : Pl.Bs} (hF : FsOk fs0 path goal) (hpl : ∀ r, TextR (fs0.foldl Pl.addF []) path goal r → r.2.1 = 0 → r.1.length ≤ 8388608) (ef : List Pl.Eff) (S : List Pl.Bs) (a ae : Option Addr) (cap b o ce L be oe : Nat) (clock : Int) (W : World)
    (ha : 0 < fs0.length → a = some ⟨b, o, none⟩) (hr : RdF W b o fs0) (hbw : b < W.heap.size) (hg : Glob W) (hE : EffOk W L be oe ae ef S) (hL : L ≤ W.heap.size) (hfS : ∀ f ∈ fs0, f.path ∈ S) (hSp : ∀ p ∈ S, p.length ≤ maxLen) :
    Calls Tryz.prog 20 #[.slice a fs0.length cap, .string ⟨path.toArray⟩, .string ⟨goal.toArray⟩, .slice ae ef.length ce, .int .i64 clock] W fun e W' => MakeP fs0 path goal ef clock W e W' := by
  have C1 : Hid (∀ w1, Below W.heap.size W w1 → Calls Tryz.prog 11 #[.slice a fs0.length cap, .string ⟨path.toArray⟩, .string ⟨goal.toArray⟩] w1 fun e W' => TextP (fs0.foldl Pl.addF []) path goal w1 e W') := fun w1 hb => compile_any hF a cap b o w1 ha (hr.below hb hbw) (Nat.lt_of_lt_of_le hbw hb.size) (hg.later hb)
  have C2 : Hid (∀ w1 (l : Pl.Bs), l.length ≤ 8388608 → Below W.heap.size W w1 → Calls Tryz.prog 30 #[.string ⟨l.toArray⟩, .slice a fs0.length cap, .slice ae ef.length ce, .int .i64 clock] w1 fun e W' => ARunPost l fs0 ef clock w1 e W') := fun w1 l hl hb => makerRun_any l hl fs0 ef S a ae cap b o ce L be oe clock w1 ha (hr.below hb hbw) (Nat.lt_of_lt_of_le hbw hb.size) hF.few (hE.tn (Tn.later (p := fun _ => False) hb) hL (fun k e => e.elim)) (Nat.le_trans hL hb.size) hfS hSp
  have HP := hide hpl
  clear ha hr hg hE hfS hSp hF hpl
  go_enter Tryz.func20, Tryz.ntmps20
  have hR0 := Row.new W 48 [.slice none 0 0, .slice none 0 0, .int .i64 0, .int .i64 0]
  have hs0 : (W.alloc (.cells #[.slice none 0 0, .slice none 0 0, .int .i64 0, .int .i64 0] 48)).heap.size = W.heap.size + 1 := World.size_alloc _ _
  have hb0 : Below W.heap.size W (W.alloc (.cells #[.slice none 0 0, .slice none 0 0, .int .i64 0, .int .i64 0] 48)) := (Below.refl _ _).alloc (Nat.le_refl _) _
  have HR0 := hide hR0
  have HS0 := hide hs0
  have HB0 := hide hb0
  clear hR0 hs0 hb0
  go_wp2_with (first
    | (go_at_call 11; refine (unhide C1 _ (unhide HB0)).mono ?_; rintro e w1 ⟨r, hr1, rfl, hb1⟩; have HR1 := hide hr1; have HB1 := hide ((unhide HB0).trans (hb1.mono (by rw [unhide HS0]; omega))); have hrow := (unhide HR0).below hb1 (by rw [unhide HS0]; omega); have r0 := hrow.cell 0 (by simp); have r1 := hrow.cell 1 (by simp); have r2 := hrow.cell 2 (by simp); have r3 := hrow.cell 3 (by simp); have f0 := hrow.frozen 0; have f1 := hrow.frozen 1; have f2 := hrow.frozen 2; have f3 := hrow.frozen 3; simp only [List.getElem_cons_zero, List.getElem_cons_succ] at r0 r1 r2 r3; have HW1 := hide hrow; have HSZ : Hid (W.heap.size < w1.heap.size) := hide hrow.lt; have HZ : Hid (((r.2.1 : Int) != 0) = false → r.2.1 = 0) := hide (fun q => (by have := bne_eq_false_iff_eq.1 q; omega)); have HNZ : Hid (((r.2.1 : Int) != 0) = true → r.2.1 ≠ 0) := hide (fun q => (by have := bne_iff_ne.1 q; omega)); clear hrow hr1 hb1 C1)
    | fail)
  · rename_i hnz
    have hset : ∀ u0 u1 u2 u3, Below W.heap.size W ((((w1.setCell ⟨W.heap.size, 0, none⟩ u0).setCell ⟨W.heap.size, 1, none⟩ u1).setCell ⟨W.heap.size, 2, none⟩ u2).setCell ⟨W.heap.size, 3, none⟩ u3) := fun u0 u1 u2 u3 => ((((unhide HB1).setCell (p := ⟨W.heap.size, 0, none⟩) (Nat.le_refl _) u0).setCell (p := ⟨W.heap.size, 1, none⟩) (Nat.le_refl _) u1).setCell (p := ⟨W.heap.size, 2, none⟩) (Nat.le_refl _) u2).setCell (p := ⟨W.heap.size, 3, none⟩) (Nat.le_refl _) u3
    have hR := ((((unhide HW1).set 0 (.slice none 0 0)).set 1 (.slice none 0 0)).set 2 (.int .i64 0)).set 3 (.int .i64 0)
    have o0 := hR.cell 0 (by simp)
    have o1 := hR.cell 1 (by simp)
    have o2 := hR.cell 2 (by simp)
    have o3 := hR.cell 3 (by simp)
    simp only [List.set_cons_zero, List.set_cons_succ, List.getElem_cons_zero, List.getElem_cons_succ] at o0 o1 o2 o3
    refine bodyPost_ret (v := .tuple #[zRes, .int .i64 (r.2.1 : Int), .int .i64 (r.2.2 : Int)]) ?_ rfl ⟨hset _ _ _ _, r, unhide HR1, .inl ⟨unhide HNZ (by first | assumption | simpa using hnz), rfl⟩⟩
    simp [results, Tryz.results20, go_sem, o0, o1, o2, o3, zRes]
  · have hz := unhide HZ (by assumption)
    refine (unhide C2 w1 r.1 (unhide HP r (unhide HR1) hz) (unhide HB1)).mono ?_
    rintro e w2 ⟨hb2, hres⟩
    have hres : RunRes r.1 fs0 ef clock w1.heap.size e w2 := hres
    obtain ⟨a1, n1, c1, a2, n2, c2, ex, ck, er, rfl⟩ := hres.shape
    have HRE := hide hres
    have HB2 := hide hb2
    have hba : Below w2.heap.size w2 (w2.alloc (.cells #[.slice a1 n1 c1, .slice a2 n2 c2, .int .i64 ex, .int .i64 ck] 48)) := (Below.refl _ _).alloc (Nat.le_refl _) _
    have hrow := ((unhide HW1).later hb2).later hba
    have hr2 := Row.new w2 48 [.slice a1 n1 c1, .slice a2 n2 c2, .int .i64 ex, .int .i64 ck]
    have hlt := ((unhide HW1).later hb2).lt
    have r0 := hrow.cell 0 (by simp)
    have r1 := hrow.cell 1 (by simp)
    have r2 := hrow.cell 2 (by simp)
    have r3 := hrow.cell 3 (by simp)
    have f0 := hrow.frozen 0
    have f1 := hrow.frozen 1
    have f2 := hrow.frozen 2
    have f3 := hrow.frozen 3
    have p0 := hr2.cell 0 (by simp)
    have p1 := hr2.cell 1 (by simp)
    have p2 := hr2.cell 2 (by simp)
    have p3 := hr2.cell 3 (by simp)
    simp only [List.getElem_cons_zero, List.getElem_cons_succ] at r0 r1 r2 r3 p0 p1 p2 p3
    have HW2 := hide hrow
    have HBA := hide hba
    clear hres hb2 hrow HW1 hr2 hba
    go_upto_region 5 with fail
    generalize w2.alloc (.cells #[.slice a1 n1 c1, .slice a2 n2 c2, .int .i64 ex, .int .i64 ck] 48) = W3 at *
    go_wp2_with fail
    have hR := ((((unhide HW2).set 0 (.slice a1 n1 c1)).set 1 (.slice a2 n2 c2)).set 2 (.int .i64 ex)).set 3 (.int .i64 ck)
    have o0 := hR.cell 0 (by simp)
    have o1 := hR.cell 1 (by simp)
    have o2 := hR.cell 2 (by simp)
    have o3 := hR.cell 3 (by simp)
    simp only [List.set_cons_zero, List.set_cons_succ, List.getElem_cons_zero, List.getElem_cons_succ] at o0 o1 o2 o3
    have hbw3 : Below W.heap.size W W3 := ((unhide HB1).trans ((unhide HB2).mono (unhide HB1).size)).trans ((unhide HBA).mono (by omega))
    have hset : Below W.heap.size W ((((W3.setCell ⟨W.heap.size, 0, none⟩ (.slice a1 n1 c1)).setCell ⟨W.heap.size, 1, none⟩ (.slice a2 n2 c2)).setCell ⟨W.heap.size, 2, none⟩ (.int .i64 ex)).setCell ⟨W.heap.size, 3, none⟩ (.int .i64 ck)) := (((hbw3.setCell (p := ⟨W.heap.size, 0, none⟩) (Nat.le_refl _) _).setCell (p := ⟨W.heap.size, 1, none⟩) (Nat.le_refl _) _).setCell (p := ⟨W.heap.size, 2, none⟩) (Nat.le_refl _) _).setCell (p := ⟨W.heap.size, 3, none⟩) (Nat.le_refl _) _
    have hre := (((((unhide HRE).later (unhide HBA)).set (k := 0) (unhide HSZ) (.slice a1 n1 c1)).set (k := 1) (unhide HSZ) (.slice a2 n2 c2)).set (k := 2) (unhide HSZ) (.int .i64 ex)).set (k := 3) (unhide HSZ) (.int .i64 ck)
    refine bodyPost_ret (v := .tuple #[.agg #[.slice a1 n1 c1, .slice a2 n2 c2, .int .i64 ex, .int .i64 ck], .int .i64 er, .int .i64 0]) ?_ rfl ⟨hset, r, unhide HR1, .inr ⟨hz, _, er, rfl, hre.low (Nat.le_of_lt (unhide HSZ))⟩⟩
    simp [results, Tryz.results20, go_sem, o0, o1, o2, o3]
end Go.Proofs.YtjelacjggijmfaaGreatDoor
namespace Go.Proofs.YtjelacjggijmfaaGreatDoor
open Go.RowKit Go.MapKept Go.ChangeMaps Go.Maps

theorem live_ok : FsOk liveF [82] [97] := by
  refine ⟨by decide, ⟨100, by decide, fun p g h => ?_⟩, by decide, fun f hf => ?_, 2, by decide, ?_⟩
  · have hm : g ∈ liveF := List.mem_of_find?_eq_some h
    rw [List.mem_singleton.1 hm]
    decide
  · have hm : f ∈ liveF := hf
    rw [List.mem_singleton.1 hm]
    decide
  · have e : liveF.foldl Pl.addF [] = liveF := rfl
    rw [e, live_book]
    intro _ r hr _ _ x hx
    rw [(live_from hr).2] at hx
    rw [List.mem_singleton.1 hx]
    decide
theorem live_run : doA [] (fOf liveX) liveX 0 ((fun _ => false), Pl.newW liveF 0) = ⟨liveF, 1, [[98]], 0⟩ := by kernel_rfl
/-- Make, of one rule with one command. -/
theorem live_make (b : Nat) (W : World) (hr : RdF W b 0 liveF) (hbw : b < W.heap.size) (hg : Glob W) :
    Calls Tryz.prog 20 #[.slice (some ⟨b, 0, none⟩) 1 1, .string ⟨#[82]⟩, .string ⟨#[97]⟩, .slice none 0 0, .int .i64 0] W fun e w' => ∃ g c1 a2 n2 c2, e = .returned (.tuple #[.agg #[.slice (some ⟨g, 0, none⟩) 1 c1, .slice a2 n2 c2, .int .i64 0, .int .i64 1], .int .i64 0, .int .i64 0]) ∧ w'.cell? ⟨g, 0, none⟩ = some (.string ⟨#[98]⟩) ∧ g < w'.heap.size ∧ Below W.heap.size W w' := by
  obtain ⟨p, hp, hpl⟩ := live_plan
  refine (make_any live_ok (fun r hr h0 => ?_) [] [[82]] (some ⟨b, 0, none⟩) none 1 b 0 0 W.heap.size b 0 0 W (fun _ => rfl) hr hbw hg ⟨fun h => by simp at h, ⟨hbw, fun i hi => by simp at hi⟩, by simp, by simp, by simp, by simp⟩ (Nat.le_refl _) (fun f hf => ?_) (fun p hp => ?_)).mono ?_
  · obtain ⟨q, h1, h2⟩ := live_text hr
    rw [hp] at h1
    cases h1
    rw [h2]
    exact Nat.le_trans hpl (by decide)
  · rw [List.mem_singleton.1 hf]; simp
  · rw [List.mem_singleton.1 hp]; decide
  · rintro e w' ⟨hb, r, h1, h2⟩
    obtain ⟨q, h3, h4⟩ := live_text h1
    rw [hp] at h3
    cases h3
    subst h4
    rcases h2 with ⟨h2, -⟩ | ⟨-, v, er, rfl, h2⟩
    · exact absurd rfl h2
    · obtain ⟨T, c, k1, k2, k3⟩ := plan_is hp
      rcases h2 with ⟨h2, -⟩ | ⟨ss, c', vc, vr, m1, -, m3, m4, m5⟩
      · exact absurd k2 h2
      · rw [k1] at m1
        cases m1
        rw [k3 [] _ rfl, live_run] at m3 m4 m5
        cases m3
        obtain ⟨g, c1, rfl, -, hg⟩ := owns_form m4 (by decide)
        obtain ⟨a2, c2, rfl⟩ := own_sh m5
        exact ⟨g, c1, a2, _, c2, rfl, own_cell m4 0 (by decide), hg, hb⟩
set_option maxHeartbeats 2000000 in
set_option maxRecDepth 20000 in
theorem lives_any (w : World) (hg : Glob w) : Calls Tryz.prog 26 #[] w fun e w' => e = .returned (.bool true) ∧ Below w.heap.size w w' ∧ 0 < w'.heap.size := by
  have hR0 := Row.new w 65 [.string ⟨#[82]⟩, .string ⟨#[97, 58, 10, 9, 98]⟩, .int .i64 0]
  have hb0 : Below w.heap.size w (w.alloc (.cells #[.string ⟨#[82]⟩, .string ⟨#[97, 58, 10, 9, 98]⟩, .int .i64 0] 65)) := (Below.refl _ _).alloc (Nat.le_refl _) _
  have hrd : RdF (w.alloc (.cells #[.string ⟨#[82]⟩, .string ⟨#[97, 58, 10, 9, 98]⟩, .int .i64 0] 65)) w.heap.size 0 liveF := fun i hi => by
    obtain rfl : i = 0 := by simp [liveF] at hi; omega
    exact ⟨hR0.cell 0 (by simp), hR0.cell 1 (by simp), hR0.cell 2 (by simp)⟩
  have C := hide (live_make w.heap.size _ hrd hR0.lt (hg.later hb0))
  have HB0 := hide hb0
  clear hR0 hrd hb0 hg
  go_enter Tryz.func26, Tryz.ntmps26
  go_wp2_with (first
    | (go_at_call 20; refine (unhide C).mono ?_; rintro e w1 ⟨g, c1, a2, n2, c2, rfl, hc, hgl, hb1⟩; have HB1 := hide hb1; clear hb1)
    | fail)
  go_ret
  have hb := (unhide HB0).trans ((unhide HB1).mono (unhide HB0).size)
  exact ⟨rfl, hb.alloc hb.size _, by rw [World.size_alloc]; omega⟩
end Go.Proofs.YtjelacjggijmfaaGreatDoor
namespace Go.Proofs.YtjelacjggijmfaaGreatDoor
open Go.RowKit

theorem harmless_any (l : Pl.Bs) (hl : l.length ≤ 8388608) (fs : List Pl.File) (ef : List Pl.Eff) (S : List Pl.Bs) (a ae : Option Addr) (cap b o ce L be oe : Nat) (clock : Int) (w : World)
    (ha : 0 < fs.length → a = some ⟨b, o, none⟩) (hr : 0 < fs.length → RdF w b o fs ∧ b < w.heap.size) (hfl : fs.length ≤ 8388608) (hae : 0 < ef.length → ae = some ⟨be, oe, none⟩) (hE : 0 < ef.length → RdE w L be oe ef ∧ L ≤ w.heap.size) (hel : ef.length ≤ 8388608) (hwl : ∀ e ∈ ef, e.writes.length ≤ 8388608) (hSl : S.length ≤ 8388608) (hfS : ∀ f ∈ fs, f.path ∈ S) (hEs : ∀ e ∈ ef, ∀ f ∈ e.writes, f.path ∈ S) (hSp : ∀ p ∈ S, p.length ≤ maxLen) (hk : wrap64 clock = clock) (hg : Glob w) :
    Calls Tryz.prog 7 #[.string ⟨l.toArray⟩, .slice a fs.length cap, .slice ae ef.length ce, .int .i64 clock] w fun e w' => e = .returned (.bool true) ∧ Below w.heap.size w w' := by
  have hrun : ∀ W, Below w.heap.size w W → 0 < W.heap.size → Calls Tryz.prog 30 #[.string ⟨l.toArray⟩, .slice a fs.length cap, .slice ae ef.length ce, .int .i64 clock] W fun e w' => ARunPost l fs ef clock W e w' := fun W hb h0 => by
    have h1 : ∃ b', (0 < fs.length → a = some ⟨b', o, none⟩) ∧ RdF W b' o fs ∧ b' < W.heap.size := by
      by_cases hf : 0 < fs.length
      · exact ⟨b, ha, (hr hf).1.below hb (hr hf).2, Nat.lt_of_lt_of_le (hr hf).2 hb.size⟩
      · exact ⟨0, fun h => absurd h hf, fun i hi => by omega, h0⟩
    have h2 : ∃ L' be', (0 < ef.length → ae = some ⟨be', oe, none⟩) ∧ RdE W L' be' oe ef ∧ L' ≤ W.heap.size := by
      by_cases hf : 0 < ef.length
      · exact ⟨L, be, hae, (hE hf).1.below (hb.mono (hE hf).2), Nat.le_trans (hE hf).2 hb.size⟩
      · exact ⟨W.heap.size, 0, fun h => absurd h hf, ⟨h0, fun i hi => by omega⟩, Nat.le_refl _⟩
    obtain ⟨b', p1, p2, p3⟩ := h1
    obtain ⟨L', be', p4, p5, p6⟩ := h2
    exact makerRun_any l hl fs ef S a ae cap b' o ce L' be' oe clock W p1 p2 p3 hfl ⟨p4, p5, hEs, hel, hwl, hSl⟩ p6 hfS hSp
  by_cases hc : Pl.checkOf l
  · refine harmless_yes l hl ef a ae fs.length cap ce L be oe clock w hel (lives_any w hg) (fun W => ?_) (fun W hb h0 => (hrun W hb h0).mono fun e w' h => hRun h hk hc) hae hE
    refine (check_any l W hl).mono ?_
    rintro e w' ⟨⟨z, h1, ⟨rfl, -⟩ | ⟨-, h2⟩⟩, hb⟩
    · exact ⟨h1, hb⟩
    · exact absurd hc h2
  · refine harmless_no l a ae fs.length cap ef.length ce clock w (lives_any w hg) (fun W => ?_) (fun W hb h0 => (hrun W hb h0).mono fun e w' h => ?_)
    · refine (check_any l W hl).mono ?_
      rintro e w' ⟨⟨z, h1, ⟨-, h2⟩ | ⟨rfl, -⟩⟩, hb⟩
      · exact absurd h2 hc
      · exact ⟨h1, hb⟩
    · obtain ⟨hb, ⟨-, h2⟩ | ⟨_, _, _, _, _, h2, _⟩⟩ := h
      · exact ⟨h2, hb⟩
      · exact absurd h2 hc
end Go.Proofs.YtjelacjggijmfaaGreatDoor
namespace Go.Proofs.YtjelacjggijmfaaGreatDoor
open Go.ChangeShapes Go.WideShapes Go.ChangeAt Go.RowKit Go.Deep

theorem cells_file : Tryz.prog.cellsOf 65 = 3 := by kernel_rfl
theorem cells_effect : Tryz.prog.cellsOf 73 = 3 := by kernel_rfl
theorem cells_str : Tryz.prog.cellsOf 9 = 1 := by kernel_rfl
theorem cells_int : Tryz.prog.cellsOf 3 = 1 := by kernel_rfl
theorem cells_files : Tryz.prog.cellsOf 27 = 1 := by kernel_rfl
theorem str_strV (s : ByteArray) : Value.string s = strV s.data.toList := by cases s; rfl
section
variable {H : Type}
theorem bulk_pos (d : DataW H) : 1 ≤ Rows.uptoBulk d := by
  cases d with
  | lit x => cases x <;> simp [Rows.uptoBulk]
  | _ => simp [Rows.uptoBulk]
theorem bulk_len : ∀ l : List (DataW H), l.length ≤ Rows.uptoBulkAll l
  | [] => by simp [Rows.uptoBulkAll]
  | d :: r => by
    have h1 := bulk_pos d
    have h2 := bulk_len r
    simp only [Rows.uptoBulkAll, List.length_cons]
    omega
theorem bulk_sum (g : Nat → Nat) : ∀ (l : List (DataW H)) (k : Nat), (∀ i d, l[i]? = some d → g (k + i) ≤ Rows.uptoBulk d) → ((List.range' k l.length).map g).sum ≤ Rows.uptoBulkAll l
  | [], _, _ => by simp [Rows.uptoBulkAll]
  | d :: r, k, h => by
    have h1 := h 0 d rfl
    have h2 := bulk_sum g r (k + 1) (fun i d hd => by
      have := h (i + 1) d (by simpa using hd)
      rw [show k + 1 + i = k + (i + 1) by omega]
      exact this)
    simp only [Rows.uptoBulkAll, List.length_cons, List.range'_succ, List.map_cons, List.sum_cons]
    rw [Nat.add_zero] at h1
    omega
end
section
variable {H : Type} {enc : TypeId × Value → H} {W : World} {base : Nat} {spare : Nat → Bool} {held : Bool}
set_option maxRecDepth 20000 in
theorem open_file {n : Nat} {cs : List Value} {y : DataW H × List MemPlace} (h : DataW.trod enc Tryz.prog W base spare held n 65 cs = some y) : ∃ f : Pl.File, cs = [strV f.path, strV f.text, .int .i64 f.time] ∧ f.path.length ≤ maxLen := by
  obtain ⟨xs, k, hk, hxy, hl, hxl, hf⟩ := DataW.trod_struct Tryz.underlying65 h
  rw [cells_file] at hl
  have hxl : xs.length = 3 := hxl
  match cs, hl with
  | [v0, v1, v2], _ =>
    match xs, hxl with
    | [y0, y1, y2], _ =>
      have g0 := hf 0 _ rfl
      have g1 := hf 1 _ rfl
      have g2 := hf 2 _ rfl
      simp [cells_str, cells_int] at g0 g1 g2
      obtain ⟨s0, e0, -, m0⟩ := DataW.trod_string Tryz.underlying9 g0
      obtain ⟨s1, e1, -, -⟩ := DataW.trod_string Tryz.underlying9 g1
      obtain ⟨z, e2, -, -⟩ := DataW.trod_int Tryz.underlying3 g2
      simp only [List.cons.injEq, and_true] at e0 e1 e2
      refine ⟨⟨s0.data.toList, s1.data.toList, z⟩, ?_, ?_⟩
      · rw [e0, e1, e2, str_strV s0, str_strV s1]
      · show s0.data.toList.length ≤ maxLen
        rw [Array.length_toList]
        exact m0
/-- Files that are handed in. -/
structure InF (W : World) (v : Value) (fs : List Pl.File) (bulk : Nat) : Prop where
  at' : ∃ a cap b o, v = .slice a fs.length cap ∧ (0 < fs.length → a = some ⟨b, o, none⟩ ∧ RdF W b o fs ∧ b < W.heap.size)
  path : ∀ f ∈ fs, f.path.length ≤ maxLen
  len : fs.length + 1 ≤ bulk
theorem spot_none {a : Addr} {v : Value} (h : W.cell? a = some v) : a.spot = none ∧ a.block < W.heap.size := by
  refine ⟨World.cell?_spot h, ?_⟩
  unfold World.cell? at h
  rcases Nat.lt_or_ge a.block W.heap.size with h' | h'
  · exact h'
  · rw [Array.getElem?_eq_none h'] at h; cases h
theorem addr_at {a : Addr} (h : a.spot = none) (i : Nat) : a.add i = ⟨a.block, a.off + i, none⟩ := by
  unfold Addr.add
  split
  · rename_i h0; subst h0; cases a; simp_all
  · rfl
theorem open_files {fuel : Nat} {v : Value} {x : DataW H × List MemPlace} (h : DataW.trod enc Tryz.prog W base spare held fuel 27 [v] = some x) : ∃ fs, InF W v fs (Rows.uptoBulk x.1) := by
  rcases open_slice Tryz.underlying27 h with ⟨h0, rfl⟩ | ⟨a, len, cap, m, n, D, Pc, hv, hb, hlc, hm, hmm, rfl, hx⟩
  · simp only [List.cons.injEq, and_true] at h0
    exact ⟨[], ⟨none, 0, 0, 0, h0, fun h => by simp at h⟩, by simp, by simp [Rows.uptoBulk]⟩
  · simp only [List.cons.injEq, and_true] at hv
    have hlm : len ≤ m := by rw [hmm]; split <;> omega
    have each : ∀ i, i < len → ∃ f : Pl.File, (W.cell? (a.add (i * 3)) = some (strV f.path) ∧ W.cell? ((a.add (i * 3)).add 1) = some (strV f.text) ∧ W.cell? ((a.add (i * 3)).add 2) = some (.int .i64 f.time)) ∧ f.path.length ≤ maxLen := fun i hi => by
      obtain ⟨cs', h1, h2⟩ := hx i (by omega)
      rw [cells_file] at h1
      obtain ⟨_, -, hc⟩ := World.cells?_some h1
      obtain ⟨f, rfl, hp⟩ := open_file h2
      have c0 := hc 0 (by omega)
      have c1 := hc 1 (by omega)
      have c2 := hc 2 (by omega)
      exact ⟨f, ⟨by simpa [Addr.add] using c0, c1, c2⟩, hp⟩
    have hinh : Inhabited Pl.File := ⟨⟨[], [], 0⟩⟩
    obtain ⟨F, hF⟩ := choose_lt each
    have hlen : ((List.range len).map F).length = len := by simp
    refine ⟨(List.range len).map F, ⟨some a, cap, a.block, a.off, by rw [hlen, hv], fun h0 => ?_⟩, fun f hf => ?_, ?_⟩
    · rw [hlen] at h0
      obtain ⟨hs, hbl⟩ := spot_none (hF 0 h0).1.1
      have hs' : a.spot = none := by simpa [Addr.add] using hs
      have hbl' : a.block < W.heap.size := by simpa [Addr.add] using hbl
      refine ⟨by cases a; simp_all, fun i hi => ?_, hbl'⟩
      have hi' : i < len := by omega
      obtain ⟨⟨c0, c1, c2⟩, -⟩ := hF i hi'
      rw [add_add] at c1 c2
      rw [addr_at hs'] at c0 c1 c2
      simp only [List.getElem_map, List.getElem_range]
      exact ⟨c0, by rw [Nat.add_assoc]; exact c1, by rw [Nat.add_assoc]; exact c2⟩
    · obtain ⟨i, hi, rfl⟩ := List.mem_map.1 hf
      exact (hF i (List.mem_range.1 hi)).2
    · have := bulk_len ((List.range len).map D)
      simp only [Rows.uptoBulk]
      rw [hlen]
      simp only [List.length_map, List.length_range] at this
      omega
/-- Effects that are handed in. -/
structure InE (W : World) (v : Value) (ef : List Pl.Eff) (bulk : Nat) : Prop where
  at' : ∃ a cap b o, v = .slice a ef.length cap ∧ (0 < ef.length → a = some ⟨b, o, none⟩ ∧ RdE W W.heap.size b o ef)
  path : ∀ e ∈ ef, ∀ f ∈ e.writes, f.path.length ≤ maxLen
  len : ef.length + (ef.flatMap (·.writes)).length + 1 ≤ bulk
set_option maxRecDepth 20000 in
theorem open_eff {n : Nat} {cs : List Value} {y : DataW H × List MemPlace} (h : DataW.trod enc Tryz.prog W base spare held n 73 cs = some y) : ∃ (e : Pl.Eff) (vw : Value) (bulk : Nat), cs = [strV e.cmd, vw, .int .i64 e.exit] ∧ InF W vw e.writes bulk ∧ bulk + 1 ≤ Rows.uptoBulk y.1 := by
  obtain ⟨xs, k, hk, hxy, hl, hxl, hf⟩ := DataW.trod_struct Tryz.underlying73 h
  rw [cells_effect] at hl
  have hxl : xs.length = 3 := hxl
  match cs, hl with
  | [v0, v1, v2], _ =>
    match xs, hxl with
    | [y0, y1, y2], _ =>
      have g0 := hf 0 _ rfl
      have g1 := hf 1 _ rfl
      have g2 := hf 2 _ rfl
      simp [cells_str, cells_int, cells_files] at g0 g1 g2
      obtain ⟨s0, e0, -, -⟩ := DataW.trod_string Tryz.underlying9 g0
      obtain ⟨fs, hfs⟩ := open_files g1
      obtain ⟨z, e2, -, -⟩ := DataW.trod_int Tryz.underlying3 g2
      simp only [List.cons.injEq, and_true] at e0 e2
      refine ⟨⟨s0.data.toList, fs, z⟩, v1, _, ?_, hfs, ?_⟩
      · rw [e0, e2, str_strV s0]
      · rw [hxy]
        simp only [List.map_cons, List.map_nil, Rows.uptoBulk, Rows.uptoBulkAll]
        omega
theorem flat_lenE (ef : List Pl.Eff) : (ef.flatMap (·.writes)).length = (ef.map (·.writes.length)).sum := by
  induction ef with
  | nil => rfl
  | cons e r ih => rw [List.flatMap_cons, List.length_append, ih, List.map_cons, List.sum_cons]
theorem flat_leE {ef : List Pl.Eff} {e : Pl.Eff} (h : e ∈ ef) : e.writes.length ≤ (ef.flatMap (·.writes)).length := by
  induction ef with
  | nil => cases h
  | cons g r ih =>
    rw [List.flatMap_cons, List.length_append]
    rcases List.mem_cons.1 h with rfl | h
    · omega
    · have := ih h
      omega
theorem sum_add_len : ∀ (l : List Nat), (l.map (· + 1)).sum = l.sum + l.length
  | [] => rfl
  | x :: r => by simp only [List.map_cons, List.sum_cons, List.length_cons, sum_add_len r]; omega
theorem open_effs {fuel : Nat} {v : Value} {x : DataW H × List MemPlace} (h : DataW.trod enc Tryz.prog W base spare held fuel 51 [v] = some x) : ∃ ef, InE W v ef (Rows.uptoBulk x.1) := by
  rcases open_slice Tryz.underlying51 h with ⟨h0, rfl⟩ | ⟨a, len, cap, m, n, D, Pc, hv, hb, hlc, hm, hmm, rfl, hx⟩
  · simp only [List.cons.injEq, and_true] at h0
    exact ⟨[], ⟨none, 0, 0, 0, h0, fun h => by simp at h⟩, by simp, by simp [Rows.uptoBulk]⟩
  · simp only [List.cons.injEq, and_true] at hv
    have hlm : len ≤ m := by rw [hmm]; split <;> omega
    have each : ∀ i, i < len → ∃ e : Pl.Eff, (∃ vw bulk, (W.cell? (a.add (i * 3)) = some (strV e.cmd) ∧ W.cell? ((a.add (i * 3)).add 1) = some vw ∧ W.cell? ((a.add (i * 3)).add 2) = some (.int .i64 e.exit)) ∧ InF W vw e.writes bulk) ∧ e.writes.length + 1 ≤ Rows.uptoBulk (D i) := fun i hi => by
      obtain ⟨cs', h1, h2⟩ := hx i (by omega)
      rw [cells_effect] at h1
      obtain ⟨_, -, hc⟩ := World.cells?_some h1
      obtain ⟨e, vw, bulk, rfl, hp, hq⟩ := open_eff h2
      have c0 := hc 0 (by omega)
      have c1 := hc 1 (by omega)
      have c2 := hc 2 (by omega)
      have hl := hp.len
      have hq : bulk + 1 ≤ Rows.uptoBulk (D i) := hq
      exact ⟨e, ⟨vw, bulk, ⟨by simpa [Addr.add] using c0, c1, c2⟩, hp⟩, by omega⟩
    have hinh : Inhabited Pl.Eff := ⟨⟨[], [], 0⟩⟩
    obtain ⟨F, hF⟩ := choose_lt each
    have hlen : ((List.range len).map F).length = len := by simp
    refine ⟨(List.range len).map F, ⟨some a, cap, a.block, a.off, by rw [hlen, hv], fun h0 => ?_⟩, fun e he => ?_, ?_⟩
    · rw [hlen] at h0
      obtain ⟨vw, bulk, ⟨c0, -, -⟩, -⟩ := (hF 0 h0).1
      obtain ⟨hs, hbl⟩ := spot_none c0
      have hs' : a.spot = none := by simpa [Addr.add] using hs
      have hbl' : a.block < W.heap.size := by simpa [Addr.add] using hbl
      refine ⟨by cases a; simp_all, hbl', fun i hi => ?_⟩
      have hi' : i < len := by omega
      obtain ⟨⟨vw, bulk, ⟨c0, c1, c2⟩, hin⟩, -⟩ := hF i hi'
      rw [add_add] at c1 c2
      rw [addr_at hs'] at c0 c1 c2
      simp only [List.getElem_map, List.getElem_range]
      obtain ⟨aw, cw, bw, ow, rfl, hw⟩ := hin.at'
      refine ⟨c0, by rw [Nat.add_assoc]; exact c2, ?_⟩
      by_cases h1 : 0 < (F i).writes.length
      · obtain ⟨q1, q2, q3⟩ := hw h1
        exact ⟨aw, cw, bw, ow, by rw [Nat.add_assoc]; exact c1, fun _ => q1, q2, q3⟩
      · exact ⟨aw, cw, 0, 0, by rw [Nat.add_assoc]; exact c1, fun h => absurd h h1, fun j hj => by omega, by omega⟩
    · obtain ⟨i, hi, rfl⟩ := List.mem_map.1 he
      obtain ⟨⟨vw, bulk, -, hin⟩, -⟩ := hF i (List.mem_range.1 hi)
      exact hin.path
    · have h1 := bulk_sum (fun i => (F i).writes.length + 1) ((List.range len).map D) 0 (fun i d hd => by
        obtain ⟨hi, rfl⟩ := List.getElem?_eq_some_iff.1 hd
        simp only [List.length_map, List.length_range] at hi
        simp only [List.getElem_map, List.getElem_range, Nat.zero_add]
        exact (hF i hi).2)
      rw [List.length_map, List.length_range] at h1
      rw [flat_lenE, List.map_map, hlen]
      have h2 := sum_add_len ((List.range len).map fun i => (F i).writes.length)
      rw [List.map_map, List.length_map, List.length_range] at h2
      rw [← List.range_eq_range'] at h1
      simp only [Rows.uptoBulk]
      have h3 : ((List.range len).map ((fun x => x + 1) ∘ fun i => (F i).writes.length)).sum = ((List.range len).map fun i => (F i).writes.length + 1).sum := rfl
      have h4 : ((List.range len).map ((fun x => x.writes.length) ∘ F)).sum = ((List.range len).map fun i => (F i).writes.length).sum := rfl
      rw [h4]
      rw [h3] at h2
      omega
end
end Go.Proofs.YtjelacjggijmfaaGreatDoor
namespace Go.Proofs.YtjelacjggijmfaaGreatDoor
open Go.ChangeShapes Go.WideShapes Go.ChangeAt Go.RowKit
open Go.ChangeMaps (open_string shut_string)

theorem own : ownKnob Tryz.prog.godebug = none := by kernel_rfl
theorem Tryz.laidOut : laidOutB Tryz.prog = true := by kernel_rfl
theorem glob_shaped (W : World) (h : W.ShapedOpen Tryz.prog) : Glob W :=
  Go.Proofs.cell_of_shapedOpen_int (zero := #[.int .i64 0]) (t := 3) h (of_decide_eq_true (by kernel_rfl)) (by kernel_rfl) rfl (by kernel_rfl) (by kernel_rfl) Tryz.underlying3
set_option maxRecDepth 100000 in
theorem harmless_contract (H : Type) (enc : TypeId × Value → H) (W : World) (base : Nat) (args : Array Value) (ds gs : List (DataW H)) (before : List MemPlace)
    (hval : ∀ (j : Nat) t v, Tryz.f7.params[j]? = some t → args[j]? = some v → Value.okWide Tryz.prog W .any base t v)
    (hW : DataW.Whole enc Tryz.prog Tryz.f7.params.toList Rows.harmlessSpec.vars false W args.toList ds gs before)
    (hk : Rows.uptoSmall H (ds ++ gs) = true) (hsh : W.ShapedOpen Tryz.prog) :
    Calls Tryz.prog 7 args W fun e W' => ∃ v, e = .returned v ∧ Rows.harmlessSpec.post enc Tryz.prog Tryz.f7 false true false false W args v W' := by
  have hW' := hW
  obtain ⟨p, q, hA0, hV, rfl, hfz, hnd⟩ := hW
  have hA : DataW.TrodAll enc Tryz.prog W 0 (fun _ => true) true Tryz.f7.params.toList args.toList ds p := hA0
  rw [Tryz.params7] at hA hval
  obtain ⟨v0, vs0, d0, ds0, p0, q0, hargs, rfl, rfl, h0, r0⟩ := trodAll_cons hA
  obtain ⟨v1, vs1, d1, ds1, p1, q1, rfl, rfl, rfl, h1, r1⟩ := trodAll_cons r0
  obtain ⟨v2, vs2, d2, ds2, p2, q2, rfl, rfl, rfl, h2, r2⟩ := trodAll_cons r1
  obtain ⟨v3, vs3, d3, ds3, p3, q3, rfl, rfl, rfl, h3, r3⟩ := trodAll_cons r2
  obtain ⟨rfl, rfl, rfl⟩ := trodAll_nil r3
  obtain rfl : args = #[v0, v1, v2, v3] := by cases args; simp_all
  obtain ⟨rfl, rfl⟩ := trodVars_none hV
  obtain ⟨s, rfl, rfl, rfl, hs⟩ := open_string Tryz.underlying9 (hval 0 9 v0 rfl rfl) h0
  obtain ⟨a1, n1, c1, rfl⟩ := okWide_slice Tryz.underlying27 (hval 1 27 v1 rfl rfl)
  obtain ⟨a2, n2, c2, rfl⟩ := okWide_slice Tryz.underlying51 (hval 2 51 v2 rfl rfl)
  obtain ⟨z, rfl, rfl, rfl, hz⟩ := open_int Tryz.underlying3 (hval 3 3 v3 rfl rfl) h3
  clear hA0
  have hlt : ∀ x, x ∈ p1 ∨ x ∈ p2 → x.block < W.heap.size := fun x hx => hW'.lt x (by simpa using hx)
  obtain ⟨fu1, g1⟩ := h1
  obtain ⟨fu2, g2⟩ := h2
  obtain ⟨fs, hfs⟩ := open_files g1
  obtain ⟨ef, hef⟩ := open_effs g2
  simp only [List.append_nil] at hW'
  have hb := of_decide_eq_true hk
  simp only [List.append_nil, Rows.uptoBulkAll, Rows.uptoBulk] at hb
  have hl1 := hfs.len
  have hl2 := hef.len
  simp only at hl1 hl2
  obtain ⟨a, cap, b, o, e1, k1⟩ := hfs.at'
  obtain ⟨ae, ce, be, oe, e2, k2⟩ := hef.at'
  have e1' := e1
  have e2' := e2
  cases e1'
  cases e2'
  have hm : (⟨s.data.toList.toArray⟩ : ByteArray) = s := (mk_eq (t := s) rfl).symm
  have hwr : ∀ e ∈ ef, e.writes.length ≤ (ef.flatMap (·.writes)).length := fun e he => flat_leE he
  have hck : wrap64 z = z := by
    have h := hz
    simp only [Lit.wf, IntKind.min, IntKind.max, IntKind.signed, IntKind.bits, Bool.and_eq_true, decide_eq_true_eq, if_true] at h
    unfold wrap64
    omega
  have walk := harmless_any s.data.toList (by omega) fs ef (fs.map (·.path) ++ (ef.flatMap (·.writes)).map (·.path)) a1 a2 c1 b o c2 W.heap.size be oe z W (fun h => (k1 h).1) (fun h => (k1 h).2) (by omega) (fun h => (k2 h).1) (fun h => ⟨(k2 h).2, Nat.le_refl _⟩) (by omega) (fun e he => by have := hwr e he; omega) (by simp only [List.length_append, List.length_map]; omega)
    (fun f hf => List.mem_append_left _ (List.mem_map_of_mem hf)) (fun e he f hf => List.mem_append_right _ (List.mem_map_of_mem (List.mem_flatMap_of_mem he hf))) (fun x hx => by
      rcases List.mem_append.1 hx with h | h
      · obtain ⟨f, hf, rfl⟩ := List.mem_map.1 h
        exact hfs.path f hf
      · obtain ⟨f, hf, rfl⟩ := List.mem_map.1 h
        obtain ⟨e, he, hf⟩ := List.mem_flatMap.1 hf
        exact hef.path e he f hf) hck (glob_shaped W hsh)
  rw [hm] at walk
  refine walk.mono fun e W' ⟨he, hn⟩ => ?_
  subst he
  exact ⟨_, rfl, _, _, _, _, _, _, hW', trodAll_cons_mk (shut_bool Tryz.underlying4 _) trodAll_mk0, trodAll_cons_mk (shut_string Tryz.underlying9 hs) (trodAll_cons_mk (Below.trod Tryz.laidOut (by kernel_rfl) (of_decide_eq_true (by kernel_rfl)) ⟨fu1, g1⟩ hn (fun x hx => hlt x (.inl hx))) (trodAll_cons_mk (Below.trod Tryz.laidOut (by kernel_rfl) (of_decide_eq_true (by kernel_rfl)) ⟨fu2, g2⟩ hn (fun x hx => hlt x (.inr hx))) (trodAll_cons_mk (shut_int Tryz.underlying3 hz) trodAll_mk0))), rfl, hn.frame _, fun h => by cases h⟩
end Go.Proofs.YtjelacjggijmfaaGreatDoor
namespace Go.Proofs.YtjelacjggijmfaaGreatDoor
open Go.ChangeShapes Go.WideShapes Go.ChangeAt Go.RowKit

set_option maxRecDepth 100000
def laidHeap (h : Array Obj) : Array Obj :=
  (h.modify 1 fun
      | .cells _ t frozen => .cells ((Go.Pinned.utf8FirstZ.map fun (n : Nat) => Value.int .u8 (n : Int)).toArray) t frozen
      | o => o).modify 2 fun
      | .cells _ t frozen => .cells (([128, 191, 160, 191, 128, 159, 144, 191, 128, 143, 0, 0, 0, 0, 0, 0, 0, 0, 0, 0, 0, 0, 0, 0, 0, 0, 0, 0, 0, 0, 0, 0].map fun (n : Int) => Value.int .u8 n).toArray) t frozen
      | o => o

theorem harmless_laid_met (os : Os) : laidMet Tryz.prog Rows.harmlessUptoRow.laid (({ World.holding Tryz.prog os ⟨#[], #[], []⟩ with heap := laidHeap (World.holding Tryz.prog os ⟨#[], #[], []⟩).heap } : World).forCall (fun _ _ => 0) ⟨#[], #[.string ⟨#[]⟩, .slice none 0 0, .slice none 0 0, .int .i64 0], []⟩).memory :=
  laidMet_of_run' 8 (by kernel_rfl) (by kernel_rfl)
theorem harmless_reads (os : Os) {H : Type} (enc : TypeId × Value → H) : ∃ places, DataW.whole enc Tryz.prog (({ World.holding Tryz.prog os ⟨#[], #[], []⟩ with heap := laidHeap (World.holding Tryz.prog os ⟨#[], #[], []⟩).heap } : World).forCall (fun _ _ => 0) ⟨#[], #[.string ⟨#[]⟩, .slice none 0 0, .slice none 0 0, .int .i64 0], []⟩).memory Tryz.f7.params.toList Rows.harmlessSpec.vars false #[Value.string ⟨#[]⟩, .slice none 0 0, .slice none 0 0, .int .i64 0].toList 8 = some ([.lit (.string []), .nil, .nil, .lit (.int .i64 0)], [], places) :=
  ⟨[], by kernel_rfl⟩

theorem harmless_lifted (os : Os) (started : os.Started) (H : Type) (enc : TypeId × Value → H) (F : Stop.Interp) :
    ReturnsInHanded {} Tryz.checked os 7 .any ((Rows.OpenSpec.upto Rows.harmlessSpec).preRow enc Tryz.prog Tryz.f7 Rows.harmlessUptoRow.domain false Rows.harmlessUptoRow.laid) (((Rows.OpenSpec.upto Rows.harmlessSpec).at F).post enc Tryz.prog Tryz.f7 false true false false) := by
  obtain ⟨places, hx⟩ := harmless_reads os enc
  refine returnsInHanded_of_row (C := Tryz.checked) (s := Rows.OpenSpec.upto Rows.harmlessSpec) own started (by kernel_rfl) Tryz.func7
    (witness_row_at (enc := enc) (C := Tryz.checked) false ({ World.holding Tryz.prog os ⟨#[], #[], []⟩ with heap := laidHeap (World.holding Tryz.prog os ⟨#[], #[], []⟩).heap }) #[.string ⟨#[]⟩, .slice none 0 0, .slice none 0 0, .int .i64 0] rfl (by kernel_rfl) (by kernel_rfl) (by kernel_rfl)
      (OpenSpec.preRow_of_cond 8 hx (by kernel_rfl) (fun k hk => by cases hk; kernel_rfl) (by kernel_rfl) (harmless_laid_met os))) ?_
  intro W base args ds gs before hval hW _ hcond _ hL hsh _
  exact harmless_contract H enc W base args ds gs before hval hW (hcond _ rfl) hsh

end Go.Proofs.YtjelacjggijmfaaGreatDoor
