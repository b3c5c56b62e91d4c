/-
  Patterns: small functions of rules and goals; a file's text.
  The steps of the nodes: stepsOf.
-/
import Derived.Test.YtjelacjggijmfaaGreatDoorVWS1
import Derived.BigQuiet
import Derived.Deep.Cut
namespace Go.Proofs.YtjelacjggijmfaaGreatDoor
open Go.RowKit Go.MapKept Go.ChangeMaps Go.Maps

theorem Tryz.infoStep : (Tryz.prog.info? 206).map (fun i => (i.zero, i.size, i.bytes)) = some (some (.agg #[.string ⟨#[]⟩, .bool false, .slice none 0 0, .slice none 0 0, .string ⟨#[]⟩, .slice none 0 0]), 6, 112) := by kernel_rfl
structure NdB (x : Nod) : Prop where
  cmds : x.cmds.length ≤ 200000000
  texts : ∀ c ∈ x.cmds, c.1.length ≤ 1073741824
  join : (Lib.join x.needs [32]).length ≤ 1073741824
  needs : x.needs.length ≤ 1073741824
  first : (x.needs.headD []).length ≤ 1073741824
  name : x.name.length ≤ 1073741824
  stem : x.stem.length ≤ 1073741824
structure OutI (W : World) (N : Pl.Bs → Cp.Nv) (nodes : List Nod) (i k : Nat) (acc : List Stp) (sv : Value) (wr : World) : Prop where
  below : Below W.heap.size W wr
  own : ∃ c, wr.ownsRow W.heap.size 206 6 sv acc.length c ∧ StC wr W.heap.size acc c
  cont : ∀ R, StepsR N (nodes.drop i) k acc R → StepsR N nodes 0 [] R
  len : acc.length = i
structure InI (ws : World) (N : Pl.Bs → Cp.Nv) (sg : UInt8 → Option Pl.Bs) (cmds : List (Pl.Bs × Nat)) (k0 j k : Nat) (acc : List Pl.Bs) (cv : Value) (w : World) : Prop where
  below : Below ws.heap.size ws w
  own : w.ownsRow ws.heap.size 9 1 cv acc.length (acc.map strV)
  cont : ∀ R, GiveR N sg (cmds.drop j) k acc R → GiveR N sg cmds k0 [] R
  len : acc.length ≤ j
theorem OutI.next {W wo wi w6 : World} {N : Pl.Bs → Cp.Nv} {nodes : List Nod} {i k k' H cc cn nb no nm cm : Nat} {acc : List Stp} {sv v6 : Value} {x : Nod} {ac' : List Pl.Bs} {c : List Value} {o : Obj} {ca an am : Option Addr} (h : OutI W N nodes i k acc sv wo) (hdr : nodes.drop i = x :: nodes.drop (i + 1)) (hB : Below wo.heap.size wo wi) (hG : GiveR N x.sg x.cmds k [] (.inr (k', ac'))) (hoc : wi.ownsRow H 9 1 (.slice ca ac'.length cc) ac'.length (ac'.map strV))
    (hc : StC wo W.heap.size acc c) (hos : wo.ownsRow W.heap.size 206 6 sv acc.length c) (hg : (wi.alloc o).grownBy w6 sv.ownBlock) (how : w6.ownsRow W.heap.size 206 6 v6 (acc.length + 1) (c ++ [strV x.name, .bool x.ph, .slice an x.needs.length cn, .slice am nm cm, strV x.stem, .slice ca ac'.length cc])) (hne : 0 < x.needs.length → an = some ⟨nb, no, none⟩ ∧ nb < W.heap.size ∧ RdN W nb no x.needs) :
    OutI W N nodes (i + 1) k' (acc ++ [⟨x.name, x.ph, x.needs, x.stem, ac'⟩]) v6 w6 := by
  have hza : (wi.alloc o).heap.size = wi.heap.size + 1 := World.size_alloc _ _
  have hWo := h.below.size
  have hoi := hB.size
  have hg6 := hg.size
  have key : ∀ q, q < wi.heap.size → some q ≠ sv.ownBlock → w6.heap[q]? = wi.heap[q]? := fun q h1 h2 => (hg.block q (by omega) h2).trans (Below.heap_alloc wi o q h1)
  have hlow : ∀ q, q < W.heap.size → some q ≠ sv.ownBlock := fun q hq e => by have := (hos.lt q e.symm).1; omega
  have hstr : ∀ (q : Nat) (cur : Array Value) (fz : Nat × Nat), q < wi.heap.size → wi.heap[q]? = some (Obj.cells cur 9 fz) → some q ≠ sv.ownBlock := fun q cur fz hq e1 e => by
    obtain ⟨c1, f1, e2⟩ := own_type hos q e.symm
    rw [hB.block q (hos.lt q e.symm).2, e2] at e1
    cases e1
  have hb6 : Below W.heap.size W w6 := h.below.trans ⟨hg.os.trans hB.os, hg.tape.trans hB.tape, hg.output.trans hB.output, by omega, fun q hq => (key q (by omega) (hlow q hq)).trans (hB.block q (by omega))⟩
  refine ⟨hb6, ⟨_, by rw [List.length_append]; exact how, StC.snoc _ _ _ _ (StC.same (by omega) (fun q hq => (key q (by omega) (hlow q hq)).trans (hB.block q (by omega))) (fun q cur fz e => ?_) _ _ hc) ?_⟩, fun R hR => h.cont R (by rw [hdr]; exact ⟨_, hG, hR⟩), by rw [List.length_append, h.len]; rfl⟩
  · have hq : q < wo.heap.size := (Array.getElem?_eq_some_iff.1 e).1
    have e' : wi.heap[q]? = some (Obj.cells cur 9 fz) := (hB.block q hq).trans e
    exact (key q (by omega) (hstr q cur fz (by omega) e')).trans (hB.block q hq)
  · by_cases h0 : 0 < ac'.length
    · obtain ⟨g, cap, hca, hg1, hg2⟩ := owns_form hoc h0
      cases hca
      obtain ⟨cur, fz, e1⟩ := own_type hoc g rfl
      have e2 := key g hg2 (hstr g cur fz hg2 e1)
      refine ⟨an, _, am, cn, cc, nb, no, g, 0, nm, cm, rfl, fun e => ⟨(hne e).1, (hne e).2.1, (hne e).2.2.below hb6 (hne e).2.1⟩, fun _ => ⟨rfl, by omega, ⟨cur, fz, e2.trans e1⟩, fun j y hj => ?_⟩⟩
      rw [cell_same e2, Nat.zero_add]
      obtain ⟨hj1, hj2⟩ := List.getElem?_eq_some_iff.1 hj
      rw [own_cell hoc j (by simpa using hj1), List.getElem_map, hj2]
    · exact ⟨an, ca, am, cn, cc, nb, no, 0, 0, nm, cm, rfl, fun e => ⟨(hne e).1, (hne e).2.1, (hne e).2.2.below hb6 (hne e).2.1⟩, fun e => absurd e h0⟩
theorem six_one (a b : Pl.Bs) (ph : Bool) (x y z : Option Addr) (k1 k2 k3 k4 k5 k6 : Nat) : ∀ u ∈ [Value.string ⟨a.toArray⟩, .bool ph, .slice x k1 k2, .slice y k3 k4, .string ⟨b.toArray⟩, .slice z k5 k6], u.oneCell' = true := fun u hu => by
  simp only [List.mem_cons, List.not_mem_nil, or_false] at hu
  rcases hu with rfl | rfl | rfl | rfl | rfl | rfl <;> rfl
def StepsP (W : World) (N : Pl.Bs → Cp.Nv) (nodes : List Nod) (e : Ending) (W' : World) : Prop := ∃ R, StepsR N nodes 0 [] R ∧ Below W.heap.size W W' ∧ (match R with
  | .inl (er, ln) => e = .returned (.tuple #[.slice none 0 0, .int .i64 (er : Nat), .int .i64 (ln : Nat)])
  | .inr (k, ss) => (500 < k ∧ e = .returned (.tuple #[.slice none 0 0, .int .i64 5, .int .i64 0])) ∨ (k ≤ 500 ∧ ∃ sv c, e = .returned (.tuple #[sv, .int .i64 0, .int .i64 0]) ∧ W'.ownsRow W.heap.size 206 6 sv ss.length c ∧ StC W' W.heap.size ss c))
set_option maxHeartbeats 4000000 in
set_option maxRecDepth 100000 in
theorem stepsOf_any (nodes : List Nod) (a : Option Addr) (cap b0 o0 nm : Nat) (L : NL) (W : World) (ha : 0 < nodes.length → a = some ⟨b0, o0, none⟩) (hb0 : b0 < W.heap.size) (hr : ∀ i (h : i < nodes.length), NdR W W.heap.size b0 (o0 + i * 5) nodes[i]) (hN : SMap W nm (nEnts L)) (hSh : Short L) (hg : Glob W) (hl : nodes.length ≤ 1000) (hB : ∀ x ∈ nodes, NdB x) :
    Calls Tryz.prog 66 #[.slice a nodes.length cap, .map (some nm)] W (StepsP W (nOf L) nodes) := by
  obtain ⟨i0, hi0, hz0, hz1, hz2⟩ := info_parts Tryz.infoStep
  obtain ⟨i1, hi1, hy0, hy1, hy2⟩ := info_parts Tryz.infoStr
  have HA := hide ha
  have HR := hide hr
  have HB := hide hB
  have HN := hide hN
  have HG := hide hg
  clear ha hr hB hN hg
  have HX0 : Hid (OutI W (nOf L) nodes 0 0 [] (.slice none 0 0) W) := ⟨Below.refl _ _, ⟨[], World.ownsRow_nil _ _ _ _, rfl⟩, fun R h => h, rfl⟩
  go_enter Tryz.func66, Tryz.ntmps66
  go_wp2_with fail
  go_loopw [7, 8, 19] (fun sv kv iv wr => ∃ (i k : Nat) (acc : List Stp), iv = .int .i64 i ∧ kv = .int .i64 k ∧ i ≤ nodes.length ∧ k ≤ i * 200000000 ∧ Hid (OutI W (nOf L) nodes i k acc sv wr)) (fun _ _ iv _ => nodes.length - intN iv)
  case atStart => exact ⟨0, 0, [], rfl, rfl, by omega, by omega, HX0⟩
  case round =>
    clear HX0
    obtain ⟨i, k, acc, rfl, rfl, hi2, hk, HX⟩ := hrel
    by_cases hi : i < nodes.length
    · have t1 : (i : Int) < nodes.length := by omega
      have t0 : (0 : Int) ≤ (i : Int) := by omega
      obtain rfl := unhide HA (by omega)
      obtain ⟨an, am, cn, cm, nb, no, mb, mo, hr6, hcn, hne, hcm⟩ := unhide HR i hi
      have hNB := unhide HB nodes[i] (List.getElem_mem hi)
      have hBl := (unhide HX).below
      have hdr : nodes.drop i = nodes[i] :: nodes.drop (i + 1) := List.drop_eq_getElem_cons hi
      have g : ∀ (j : Nat) (u : Value), [strV nodes[i].name, .bool nodes[i].ph, .slice an nodes[i].needs.length cn, .slice am nodes[i].cmds.length cm, strV nodes[i].stem][j]? = some u → wr.cell? ⟨b0, o0 + i * 5 + j, none⟩ = some u := fun j u hj => (hBl.cell (p := ⟨b0, _, none⟩) hb0).trans (hr6 j u hj)
      have g0 : wr.cell? ⟨b0, o0 + i * 5, none⟩ = some (strV nodes[i].name) := g 0 _ rfl
      have g1 := g 1 _ rfl
      have g2 := g 2 _ rfl
      have g3 := g 3 _ rfl
      have g4 := g 4 _ rfl
      have HDR := hide hdr
      clear g hr6 hdr
      generalize hx : nodes[i] = x at *
      obtain ⟨name, ph, needs, stem, cmds⟩ := x
      obtain ⟨m1, m2, m3, m4, m5, m6, m7⟩ := hNB
      dsimp only at *
      have HNE := hide hne
      have HCM := hide hcm
      clear hne hcm
      have q1 := (Below.refl wr.heap.size wr).alloc (Nat.le_refl _) (.cells #[strV name, .bool ph, .slice an needs.length cn, .slice am cmds.length cm, strV stem] 197)
      have HQ1 := hide q1
      have RB := hide (Row.new wr 197 [strV name, .bool ph, .slice an needs.length cn, .slice am cmds.length cm, strV stem])
      have CG := hide (signsOf_any name stem ph needs an am cn nb no cmds.length cm (wr.alloc (.cells #[strV name, .bool ph, .slice an needs.length cn, .slice am cmds.length cm, strV stem] 197)) (fun e => ⟨(unhide HNE e).1, (unhide HNE e).2.2.below (hBl.trans (q1.mono hBl.size)) (unhide HNE e).2.1⟩) (fun e => Nat.lt_of_lt_of_le (unhide HNE e).2.1 (Nat.le_trans hBl.size q1.size)) hcn m3 m4)
      have hws := hBl.size
      clear q1 hBl
      unfold nodeV strV at *
      go_wp2_with (first
        | (go_at_call 93; refine (unhide CG).mono ?_; clear CG; rintro e w2 ⟨s1, s2, s3, rfl, hsg, hb2⟩; have HSG := hide hsg; have HB2 := hide ((unhide HQ1).trans (hb2.mono (unhide HQ1).size)); have RB2 := hide ((unhide RB).later hb2); have d3 := (unhide RB2).cell? (i := 3) rfl; unfold signV; clear hsg hb2)
        | fail)
      have HBW2 := hide ((unhide HX).below.trans ((unhide HB2).mono hws))
      have HN2 := hide ((unhide HN).below (unhide HBW2) (unhide HN).lt)
      have HG2 := hide ((unhide HG).later (unhide HBW2))
      have hs1 := (unhide HSG).node.lt
      have hs2 := (unhide HSG).first.lt
      have hs3 := (unhide HSG).all.lt
      have HI0 : Hid (InI w2 (nOf L) (Nod.sg ⟨name, ph, needs, stem, cmds⟩) cmds k 0 k [] (.slice none 0 0) w2) := ⟨Below.refl _ _, World.ownsRow_nil _ _ _ _, fun R h => h, Nat.le_refl _⟩
      go_loopw [8, 12, 28] (fun kv cv jv wi => ∃ (j k' : Nat) (ac' : List Pl.Bs), jv = .int .i64 j ∧ kv = .int .i64 k' ∧ j ≤ cmds.length ∧ k' ≤ k + j ∧ Hid (InI w2 (nOf L) (Nod.sg ⟨name, ph, needs, stem, cmds⟩) cmds k j k' ac' cv wi)) (fun _ _ jv _ => cmds.length - intN jv)
      case atStart => exact ⟨0, k, [], rfl, rfl, by omega, by omega, HI0⟩
      case round =>
        clear HI0
        obtain ⟨j, k', ac', rfl, rfl, hj2, hk', HI⟩ := hrel
        by_cases hj : j < cmds.length
        · have u1 : (j : Int) < cmds.length := by omega
          have u0 : (0 : Int) ≤ (j : Int) := by omega
          obtain ⟨rfl, hmb, hrc⟩ := unhide HCM (by omega)
          have hBi := (unhide HBW2).trans ((unhide HI).below.mono (unhide HBW2).size)
          obtain ⟨ct, cl⟩ := hrc.below hBi hmb j cmds[j] (List.getElem?_eq_getElem hj)
          have hcd : cmds.drop j = cmds[j] :: cmds.drop (j + 1) := List.drop_eq_getElem_cons hj
          have hct := m2 cmds[j] (List.getElem_mem hj)
          have HCD := hide hcd
          clear hrc hcd
          generalize hc : cmds[j] = c at *
          obtain ⟨text, line⟩ := c
          dsimp only at ct cl hct
          have p1 := (Below.refl wr.heap.size wr).alloc (Nat.le_refl _) (.cells #[strV text, .int .i64 (line : Int)] 202)
          have p2 := (unhide HI).below.trans (p1.mono (unhide HI).below.size)
          have RC := hide (Row.new wr 202 [strV text, .int .i64 (line : Int)])
          have HP2 := hide p2
          have CE := hide (expand_any nm (signV s1 s2 s3) L (Nod.sg ⟨name, ph, needs, stem, cmds⟩) _ text (wr.alloc (.cells #[strV text, .int .i64 (line : Int)] 202)) (fun c h1 h2 => sgn_of c s1 s2 s3 (wr.alloc (.cells #[strV text, .int .i64 (line : Int)] 202)).heap.size name (needs.headD []) (Lib.join needs [32]) stem ph _ _ (Nat.lt_of_lt_of_le hs1 p2.size) (Nat.lt_of_lt_of_le hs2 p2.size) (Nat.lt_of_lt_of_le hs3 p2.size) h1 h2 m6 m5 m3 m7) (fun W' hb => (unhide HSG).later (p2.trans (hb.mono p2.size))) hSh ((unhide HN2).later p2) ((unhide HG2).later p2) hct)
          have hil := (unhide HI).len
          clear p1 p2
          unfold signV strV at *
          go_upto_region 12 with (first
            | (go_at_call 94; refine (unhide CE).mono ?_; clear CE; rintro e w4 ⟨r, hx4, rfl, hrl, hb4⟩; have HX4 := hide hx4; have HB4 := hide ((unhide HP2).trans (hb4.mono (unhide HP2).size)); have hs4 := hb4.size; have RC4 := hide ((unhide RC).later hb4); have HO4 := hide (own_same (unhide HI).own (fun q hq => by have := ((unhide HI).own.lt q hq).2; exact (hb4.block q (by rw [World.size_alloc]; omega)).trans (Below.heap_alloc wr _ q this))); have cl4 := (unhide RC4).cell? (i := 1) rfl; unfold erV; clear hx4 hb4)
            | fail)
          obtain ⟨txt, er, rf⟩ := r
          dsimp only at hrl
          dsimp only
          by_cases her : er = 0
          · subst her
            have CC : Hid (Calls Tryz.prog 95 #[.string ⟨txt.toArray⟩] w4 fun e w' => e = .returned (.string ⟨(Mk.cut txt).toArray⟩) ∧ Below w4.heap.size w4 w') := cut_any ⟨txt.toArray⟩ w4 (by show txt.length ≤ _; omega)
            have u7 : (k' : Int) ≤ 1000000000000 := by omega
            cases hcut : Mk.cut txt with
            | nil =>
              rw [hcut] at CC
              have HCU := hide hcut
              clear hcut
              go_wp2_with (first
                | (go_at_call 95; refine (unhide CC).mono ?_; clear CC; rintro e w5 ⟨rfl, hb5⟩; have HI5 : Hid (InI w2 (nOf L) (Nod.sg ⟨name, ph, needs, stem, cmds⟩) cmds k (j + 1) k' ac' u12 w5) := ⟨(unhide HB4).trans (hb5.mono (unhide HB4).size), own_same (unhide HO4) (fun q hq => hb5.block q ((unhide HO4).lt q hq).2), fun R h => (unhide HI).cont R (by rw [unhide HCD]; exact ⟨_, unhide HX4, by rw [if_neg (by simp), if_pos (unhide HCU)]; exact h⟩), by omega⟩; clear hb5)
                | fail)
              go_roundw
              case rel => exact ⟨j + 1, k', ac', by go_num, rfl, by omega, by omega, HI5⟩
              case measure => simp only [intN]; omega
            | cons y ys =>
              have HCU : Hid (¬ Mk.cut txt = []) := by show ¬ Mk.cut txt = []; rw [hcut]; simp
              rw [hcut] at CC
              clear hcut
              by_cases h5 : k' + 1 ≤ 500
              · have u6 : (k' : Int) + 1 ≤ 500 := by omega
                have HCT : Hid (∀ R, GiveR (nOf L) (Nod.sg ⟨name, ph, needs, stem, cmds⟩) (cmds.drop (j + 1)) (k' + 1) (ac' ++ [txt]) R → GiveR (nOf L) (Nod.sg ⟨name, ph, needs, stem, cmds⟩) cmds k [] R) := fun R h => (unhide HI).cont R (by rw [unhide HCD]; exact ⟨_, unhide HX4, by rw [if_neg (by simp), if_neg (unhide HCU), if_pos h5]; exact h⟩)
                go_wp2_with (first
                  | (go_at_call 95; refine (unhide CC).mono ?_; clear CC; rintro e w5 ⟨rfl, hb5⟩; have HB5 := hide ((unhide HB4).trans (hb5.mono (unhide HB4).size)); have HO5 := hide (own_same (unhide HO4) (fun q hq => hb5.block q ((unhide HO4).lt q hq).2)); have hs5 := hb5.size; clear hb5)
                  | (at_builtin; refine wpList_append_own_at _ rfl (.tmp 52) (.tmp 54) 30 rfl w2.heap.size 9 i1 (.string ⟨#[]⟩) 1 16 Tryz.underlying30 hi1 hy0 hy1 hy2 rfl (by decide) _ ac'.length _ rfl (World.ownsRow.alloc (unhide HO5) _) ⟨_, 0, none⟩ 1 1 [.string ⟨txt.toArray⟩] rfl rfl (cells_new _ _ [_]) (one_one _) (by unfold maxLen; omega) (by omega) (by have := (unhide HB5).size; rw [World.size_alloc]; omega) ?_; intro v6 w6 hown6 hgrow6 _ _; have HI6 : Hid (InI w2 (nOf L) (Nod.sg ⟨name, ph, needs, stem, cmds⟩) cmds k (j + 1) (k' + 1) (ac' ++ [txt]) v6 w6) := ⟨((unhide HB5).alloc (unhide HB5).size (.cells #[.string ⟨txt.toArray⟩] 9)).trans ((Tn.grown (p := fun q => w2.heap.size ≤ q) hgrow6 (fun q hq => ((unhide HO5).lt q hq).1)).below (by have := (unhide HB5).size; rw [World.size_alloc]; omega) (fun q hq => hq)), by rw [List.length_append, List.map_append]; exact hown6, unhide HCT, by rw [List.length_append, List.length_singleton]; omega⟩; clear hown6 hgrow6)
                  | fail)
                go_roundw
                case rel => exact ⟨j + 1, k' + 1, _, by go_num, by go_num, by omega, by omega, HI6⟩
                case measure => simp only [intN]; omega
              · have u6 : ¬ (k' : Int) + 1 ≤ 500 := by omega
                have HCT : Hid (∀ R, GiveR (nOf L) (Nod.sg ⟨name, ph, needs, stem, cmds⟩) (cmds.drop (j + 1)) (k' + 1) ac' R → GiveR (nOf L) (Nod.sg ⟨name, ph, needs, stem, cmds⟩) cmds k [] R) := fun R h => (unhide HI).cont R (by rw [unhide HCD]; exact ⟨_, unhide HX4, by rw [if_neg (by simp), if_neg (unhide HCU), if_neg h5]; exact h⟩)
                go_wp2_with (first
                  | (go_at_call 95; refine (unhide CC).mono ?_; clear CC; rintro e w5 ⟨rfl, hb5⟩; have HI5 : Hid (InI w2 (nOf L) (Nod.sg ⟨name, ph, needs, stem, cmds⟩) cmds k (j + 1) (k' + 1) ac' u12 w5) := ⟨(unhide HB4).trans (hb5.mono (unhide HB4).size), own_same (unhide HO4) (fun q hq => hb5.block q ((unhide HO4).lt q hq).2), unhide HCT, by omega⟩; clear hb5)
                  | fail)
                go_roundw
                case rel => exact ⟨j + 1, k' + 1, ac', by go_num, by go_num, by omega, by omega, HI5⟩
                case measure => simp only [intN]; omega
          · have u5 : ¬ (er : Int) = 0 := by omega
            have HPO : Hid (∃ R, StepsR (nOf L) nodes 0 [] R ∧ R = .inl (er, line)) := ⟨.inl (er, line), (unhide HX).cont _ (by rw [unhide HDR]; exact ⟨.inl (er, line), (unhide HI).cont _ (by rw [unhide HCD]; exact ⟨_, unhide HX4, by rw [if_pos her]⟩), rfl⟩), rfl⟩
            go_wp2_with fail
            go_region
            all_goals go_wp2_with fail
            all_goals go_ret3
            all_goals
              obtain ⟨R, hR, rfl⟩ := unhide HPO
              exact ⟨_, hR, ((unhide HBW2).trans ((unhide HB4).mono (unhide HBW2).size)).drew, rfl⟩
        · have hje : j = cmds.length := by omega
          subst hje
          have u1 : ¬ (cmds.length : Int) < cmds.length := by omega
          have hGR : GiveR (nOf L) (Nod.sg ⟨name, ph, needs, stem, cmds⟩) cmds k [] (.inr (k', ac')) := (unhide HI).cont _ (by rw [List.drop_length]; rfl)
          have HGR := hide hGR
          obtain ⟨ca, cc, hcv⟩ := own_sh (unhide HI).own
          subst hcv
          have RW := (unhide RB2).later (unhide HI).below
          have d0 := RW.cell? (i := 0) rfl
          have d1 := RW.cell? (i := 1) rfl
          have d2 := RW.cell? (i := 2) rfl
          have d3' := RW.cell? (i := 3) rfl
          have d4 := RW.cell? (i := 4) rfl
          obtain ⟨c, ho1, ho2⟩ := (unhide HX).own
          have HBI := hide ((unhide HB2).trans ((unhide HI).below.mono (unhide HB2).size))
          have HOS := hide (own_same ho1 (fun q hq => (unhide HBI).block q (ho1.lt q hq).2))
          have HO1 := hide ho1
          have HO2 := hide ho2
          have hal := (unhide HX).len
          have hsz9 := (unhide HBI).size
          clear hGR RW ho1 ho2
          go_wp2_with (first
            | (at_builtin; refine wpList_append_own_at _ rfl (.tmp 57) (.tmp 61) 133 rfl W.heap.size 206 i0 _ 6 112 Tryz.underlying133 hi0 hz0 hz1 hz2 rfl (by decide) _ acc.length _ rfl (World.ownsRow.alloc (unhide HOS) _) ⟨_, 0, none⟩ 1 1 [.string ⟨name.toArray⟩, .bool ph, .slice an needs.length cn, .slice am cmds.length cm, .string ⟨stem.toArray⟩, .slice ca ac'.length cc] rfl rfl (cells_new _ _ _) (six_one _ _ _ _ _ _ _ _ _ _ _ _) (by unfold maxLen; omega) (by omega) (by rw [World.size_alloc]; omega) ?_; intro v6 w6 hown6 hgrow6 _ _; have HX6 := hide ((unhide HX).next (x := ⟨name, ph, needs, stem, cmds⟩) (unhide HDR) (unhide HBI) (unhide HGR) (unhide HI).own (unhide HO2) (unhide HO1) hgrow6 hown6 (unhide HNE)); clear hown6 hgrow6)
            | fail)
          go_roundw
          case rel => exact ⟨i + 1, k', _, by go_num, rfl, by omega, by omega, HX6⟩
          case measure => simp only [intN]; omega
    · have hie : i = nodes.length := by omega
      subst hie
      have t1 : ¬ (nodes.length : Int) < nodes.length := by omega
      have hR : StepsR (nOf L) nodes 0 [] (.inr (k, acc)) := (unhide HX).cont _ (by rw [List.drop_length]; rfl)
      have HRR := hide hR
      obtain ⟨c, ho1, ho2⟩ := (unhide HX).own
      have HO := hide ho1
      have HO2 := hide ho2
      clear hR ho1 ho2
      by_cases h5 : 500 < k
      · have u6 : (500 : Int) < (k : Int) := by omega
        go_wp2_with fail
        go_ret3
        exact ⟨_, unhide HRR, (unhide HX).below, .inl ⟨h5, rfl⟩⟩
      · have u6 : ¬ (500 : Int) < (k : Int) := by omega
        go_wp2_with fail
        go_ret3
        exact ⟨_, unhide HRR, (unhide HX).below, .inr ⟨by omega, _, c, rfl, unhide HO, unhide HO2⟩⟩
end Go.Proofs.YtjelacjggijmfaaGreatDoor
namespace Go.Proofs.YtjelacjggijmfaaGreatDoor
open Go.RowKit Go.MapKept Go.ChangeMaps Go.Maps

set_option maxHeartbeats 1000000 in
/-- A file's text, if it is there. -/
theorem worldText_any (bx bf bi : Nat) (ve : Value) (ef : List Pl.Eff) (fs : List Pl.File) (clock : Int) (nm : Pl.Bs) (w : World) (h : PW w bx bf bi ve ef fs clock) :
    Calls Tryz.prog 87 #[.pointer (some ⟨bx, 0, none⟩), .string ⟨nm.toArray⟩] w fun e w' => e = .returned (match Pl.look fs nm with | some g => .tuple #[.string ⟨g.text.toArray⟩, .bool true] | none => .tuple #[.string ⟨#[]⟩, .bool false]) ∧ Below w.heap.size w w' := by
  have c0 := h.row.cell 0 (by simp)
  simp only [List.getElem_cons_zero] at c0
  have HF := hide h.files
  cases hl : Pl.look fs nm with
  | some g =>
    have HM : Hid (mget (fEnts fs) nm = some (fileV g)) := by show _ = _; rw [mget_f, hl]; rfl
    clear h hl
    go_enter Tryz.func87, Tryz.ntmps87
    go_wp2_with (first
      | (at_lookup; refine wpList_look_ok_yes _ rfl _ _ 177 rfl 9 65 Tryz.underlying177 Tryz.underlying9 _ (zeroFile _) bf (fEnts fs) rfl (unhide HF) nm rfl (fileV g) (unhide HM) ?_; unfold fileV)
      | fail)
    go_ret2
    exact ⟨rfl, (Below.refl _ w).alloc (Nat.le_refl _) _⟩
  | none =>
    have HM : Hid (mget (fEnts fs) nm = none) := by show _ = _; rw [mget_f, hl]; rfl
    clear h hl
    go_enter Tryz.func87, Tryz.ntmps87
    go_wp2_with (first
      | (at_lookup; refine wpList_look_ok_no _ rfl _ _ 177 rfl 9 65 Tryz.underlying177 Tryz.underlying9 _ (zeroFile _) bf (fEnts fs) rfl (unhide HF) nm rfl (unhide HM) ?_)
      | fail)
    go_ret2
    exact ⟨rfl, (Below.refl _ w).alloc (Nat.le_refl _) _⟩
def placeB (s : Pl.Bs) : Bool := Lib.contains s [37]
def placesB (s : Pl.Bs) : Bool := decide (1 < Lib.countByte s 37)
def fillB (need stem : Pl.Bs) : Pl.Bs := Lib.replaceAll need [37] stem
theorem hasPlace_any (s : Pl.Bs) (w : World) (hg : Glob w) (hs : s.length ≤ 4294967200) : Calls Tryz.prog 227 #[.string ⟨s.toArray⟩] w fun e w' => e = .returned (.bool (placeB s)) ∧ w' = w := by
  obtain ⟨m, hm⟩ := hg
  have C1 : Hid (Calls Tryz.prog 140 #[.string ⟨s.toArray⟩, .string ⟨#[37]⟩] w fun e w' => e = .returned (.bool (placeB s)) ∧ w' = w) := Any.strings_Contains Tryz.lay144 ⟨s.toArray⟩ ⟨#[37]⟩ m w (by show s.length < _; omega) hm
  go_enter Tryz.func227, Tryz.ntmps227
  go_wp2_with (first
    | (go_at_call 140; refine (unhide C1).mono ?_; rintro e w1 ⟨rfl, rfl⟩)
    | fail)
  go_ret
  exact ⟨rfl, rfl⟩
theorem hasPlaces_any (s : Pl.Bs) (w : World) : Calls Tryz.prog 226 #[.string ⟨s.toArray⟩] w fun e w' => e = .returned (.bool (placesB s)) ∧ w' = w := by
  have C1 : Hid (Calls Tryz.prog 266 #[.string ⟨s.toArray⟩, .string ⟨#[37]⟩] w fun e w' => e = .returned (.int .i64 (Lib.countByte s 37)) ∧ w' = w) := Any.strings_Count_one Tryz.lay138 ⟨s.toArray⟩ 37 w
  have hp : placesB s = decide (1 < Lib.countByte s 37) := rfl
  rw [hp]
  generalize Lib.countByte s 37 = n at *
  clear hp
  have hd : decide ((1 : Int) < (n : Int)) = decide (1 < n) := by rw [decide_eq_decide]; omega
  have HD := hide hd
  clear hd
  go_enter Tryz.func226, Tryz.ntmps226
  go_wp2_with (first
    | (go_at_call 266; refine (unhide C1).mono ?_; rintro e w1 ⟨rfl, rfl⟩)
    | fail)
  go_ret
  exact ⟨by rw [← unhide HD]; rfl, rfl⟩
theorem fill_any (need stem : Pl.Bs) (w : World) (hg : Glob w) (hs : need.length ≤ 4294967200) (hl : need.length + Lib.countB ⟨need.toArray⟩ ⟨#[37]⟩ * stem.length ≤ 140737488355328) : Calls Tryz.prog 187 #[.string ⟨need.toArray⟩, .string ⟨stem.toArray⟩] w fun e w' => e = .returned (.string ⟨(fillB need stem).toArray⟩) ∧ Below w.heap.size w w' := by
  obtain ⟨m, hm⟩ := hg
  have C1 : Hid (Calls Tryz.prog 235 #[.string ⟨need.toArray⟩, .string ⟨#[37]⟩, .string ⟨stem.toArray⟩] w fun e w' => e = .returned (.string ⟨(fillB need stem).toArray⟩) ∧ Below w.heap.size w w') := Any.strings_ReplaceAll Tryz.lay155 Tryz.layX ⟨need.toArray⟩ ⟨#[37]⟩ ⟨stem.toArray⟩ m w (by show need.length < _; omega) hm (Nat.le_refl 1) hl
  go_enter Tryz.func187, Tryz.ntmps187
  go_wp2_with (first
    | (go_at_call 235; refine (unhide C1).mono ?_; rintro e w1 ⟨rfl, hb⟩)
    | fail)
  go_ret
  exact ⟨rfl, hb⟩
end Go.Proofs.YtjelacjggijmfaaGreatDoor
