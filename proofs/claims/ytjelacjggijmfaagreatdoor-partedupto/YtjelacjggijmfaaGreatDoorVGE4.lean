/-
  What a goal wants: the patterns that may fit.
  What a goal wants: the first pattern that fits a name.
-/
import Derived.Test.YtjelacjggijmfaaGreatDoorVGDA
namespace Go.Proofs.YtjelacjggijmfaaGreatDoor
open Go.RowKit Go.MapKept Go.ChangeMaps Go.Maps

def tgB (s : St) (n : Pl.Bs) : Bool := decide (0 < (s.of n).length)
/-- What the walk over nodes holds. -/
structure WkM (W : World) (wk : Nat) (c : Ad) (rb : Nat → Nat) (s : St) (vp : Value) (l : Ents) (bf bi : Nat) (ve : Value) (ef : List Pl.Eff) (fs : List Pl.File) (clock : Int) (v2 v3 v4 v5 : Value) : Prop where
  row : Row W wk 193 [.pointer (some ⟨c.bb, 0, none⟩), .pointer (some ⟨c.bx, 0, none⟩), v2, v3, v4, v5]
  bm : BM W c rb s vp l
  pw : PW W c.bx bf bi ve ef fs clock
  glob : Glob W
/-- Patterns in memory: which rule, which needs hang on the stem. -/
def PaT (W : World) (rb : Nat → Nat) (v : Value) (us : List (Nat × List Pl.Bs)) : Prop := (v = .slice none 0 0 ∧ us = []) ∨ ∃ b o cp, v = .slice (some ⟨b, o, none⟩) us.length cp ∧ (∃ cs fz, W.heap[b]? = some (Obj.cells cs 275 fz)) ∧
  ∀ (j : Nat) (x : Nat × List Pl.Bs), us[j]? = some x → W.cell? ⟨b, o + j * 2, none⟩ = some (ptrV rb x.1) ∧ ∃ u, W.cell? ⟨b, o + j * 2 + 1, none⟩ = some u ∧ SlT W u x.2
def fitL (s : St) (fs : List Pl.File) (name : Pl.Bs) : List (Nat × List Pl.Bs) → Option (Nat × Pl.Bs)
  | [] => none
  | x :: r => if (stemB name ((rlOf s x.1).tg.headD [])).2 = true ∧ x.2.all (thereB fs (tgB s) (stemB name ((rlOf s x.1).tg.headD [])).1) = true then some (x.1, (stemB name ((rlOf s x.1).tg.headD [])).1) else fitL s fs name r
def fitV (rb : Nat → Nat) : Option (Nat × Pl.Bs) → Value
  | none => .tuple #[.pointer none, .string ⟨#[]⟩, .bool false]
  | some (i, stem) => .tuple #[ptrV rb i, .string ⟨stem.toArray⟩, .bool true]
section
variable {W X : World} {wk : Nat} {c : Ad} {rb : Nat → Nat} {s : St} {vp : Value} {l : Ents} {bf bi : Nat} {ve : Value} {ef : List Pl.Eff} {fs : List Pl.File} {clock : Int} {v2 v3 v4 v5 : Value}
theorem WkM.later (h : WkM W wk c rb s vp l bf bi ve ef fs clock v2 v3 v4 v5) (hb : Below W.heap.size W X) : WkM X wk c rb s vp l bf bi ve ef fs clock v2 v3 v4 v5 := ⟨h.row.later hb, h.bm.later hb, h.pw.later hb, h.glob.later hb⟩
theorem WkM.at (h : WkM W wk c rb s vp l bf bi ve ef fs clock v2 v3 v4 v5) : AtM W wk c.bb c.nm c.bt c.pb c.bx bf bi vp ve v2 v3 v4 v5 s.first l (tgB s) ef fs clock := by
  refine ⟨h.row, h.bm.book, h.bm.tgts, fun name => ?_, h.pw, h.glob⟩
  obtain ⟨a, cp, e⟩ := (h.bm.of name).sh
  rw [List.length_map] at e
  exact ⟨a, _, cp, e, rfl⟩
theorem PaT.later {v : Value} {us : List (Nat × List Pl.Bs)} (h : PaT W rb v us) (hb : Below W.heap.size W X) : PaT X rb v us := by
  rcases h with h | ⟨b, o, cp, h1, ⟨cs, fz, h2⟩, h3⟩
  · exact .inl h
  · have hlt := (Array.getElem?_eq_some_iff.1 h2).1
    refine .inr ⟨b, o, cp, h1, ⟨cs, fz, (hb.block b hlt).trans h2⟩, fun j x hj => ?_⟩
    obtain ⟨q1, u, q2, q3⟩ := h3 j x hj
    exact ⟨(hb.cell (p := ⟨b, o + j * 2, none⟩) hlt).trans q1, u, (hb.cell (p := ⟨b, o + j * 2 + 1, none⟩) hlt).trans q2, q3.bl (Bl.below hb)⟩
theorem PaT.sh {v : Value} {us : List (Nat × List Pl.Bs)} (h : PaT W rb v us) : ∃ a cp, v = .slice a us.length cp := by
  rcases h with ⟨h1, h2⟩ | ⟨b, o, cp, h1, -⟩
  · subst h2; exact ⟨none, 0, h1⟩
  · exact ⟨_, cp, h1⟩
theorem stemB_len (name target : Pl.Bs) : (stemB name target).1.length ≤ name.length := by
  unfold stemB
  split
  · simp
  · have h1 := trimPrefix_le name (Mk.before 37 target)
    simp only [Lib.trimSuffix]
    split
    · rw [List.length_take]; omega
    · exact h1
theorem cnt_le (n : Pl.Bs) : Lib.countB ⟨n.toArray⟩ ⟨#[37]⟩ ≤ n.length := by
  have := Lib.countB_mul_le (⟨#[37]⟩ : ByteArray) (by decide) n.length ⟨n.toArray⟩ (by show n.length ≤ _; omega)
  have e : (⟨#[37]⟩ : ByteArray).size = 1 := rfl
  rw [e, Nat.mul_one] at this
  exact this
structure FtI (W : World) (s : St) (fs : List Pl.File) (name : Pl.Bs) (us : List (Nat × List Pl.Bs)) (j : Nat) (X : World) : Prop where
  below : Below W.heap.size W X
  eq : fitL s fs name us = fitL s fs name (us.drop j)
set_option maxHeartbeats 4000000 in
set_option maxRecDepth 100000 in
theorem fitting_any (us : List (Nat × List Pl.Bs)) (name : Pl.Bs) (h : WkM W wk c rb s vp l bf bi ve ef fs clock v2 v3 v4 v5) (hu : PaT W rb v2 us) (hx : ∀ x ∈ us, x.1 < s.rules.length ∧ (rlOf s x.1).tg ≠ [] ∧ (∀ y ∈ (rlOf s x.1).tg, y.length ≤ 2000) ∧ x.2.length ≤ 2000 ∧ ∀ n ∈ x.2, n.length ≤ 2000) (hn : us.length ≤ 1073741824) (hnm : name.length ≤ 1073741824) :
    Calls Tryz.prog 240 #[.pointer (some ⟨wk, 0, none⟩), .string ⟨name.toArray⟩] W fun e W' => e = .returned (fitV rb (fitL s fs name us)) ∧ Below W.heap.size W W' := by
  obtain ⟨a, cp, rfl⟩ := hu.sh
  have c2 := h.row.cell? (i := 2) rfl
  have HH := hide h
  have HU := hide hu
  have HX := hide hx
  have HI0 : Hid (FtI W s fs name us 0 W) := ⟨Below.refl _ _, by rw [List.drop_zero]⟩
  clear h hu hx
  go_enter Tryz.func240, Tryz.ntmps240
  go_wp2_with fail
  go_loopw [16] (fun iv wr => ∃ j : Nat, iv = .int .i64 j ∧ j ≤ us.length ∧ Hid (FtI W s fs name us j wr)) (fun iv _ => us.length - intN iv)
  case atStart => exact ⟨0, rfl, by omega, HI0⟩
  case round =>
    clear HI0 c2
    obtain ⟨j, rfl, hj2, HI⟩ := hrel
    by_cases hj : j < us.length
    · have t1 : (j : Int) < us.length := by omega
      have t0 : (0 : Int) ≤ (j : Int) := by omega
      have hb := (unhide HI).below
      have hsz := hb.size
      have hM := (unhide HH).later hb
      rcases (unhide HU).later hb with ⟨-, q⟩ | ⟨b, o, cp', q, ⟨cs, fz, q1⟩, q2⟩
      · rw [q] at hj; simp at hj
      cases q
      have hlt := (Array.getElem?_eq_some_iff.1 q1).1
      obtain ⟨p1, u, p2, p3⟩ := q2 j us[j] (List.getElem?_eq_getElem hj)
      obtain ⟨x1, x2, x3, x4, x5⟩ := unhide HX us[j] (List.getElem_mem hj)
      have hdr : us.drop j = us[j] :: us.drop (j + 1) := List.drop_eq_getElem_cons hj
      have hE := (unhide HI).eq
      rw [hdr, fitL] at hE
      obtain ⟨vt, vn, vc, r1, r2, -, -⟩ := hM.bm.rules us[j].1 x1
      have hlr := r1.lt
      generalize us[j] = xx at *
      obtain ⟨i, bs⟩ := xx
      simp only at p1 p3 x1 x2 x3 x4 x5 hE r1 r2 hlr
      have hlen : 0 < (rlOf s i).tg.length := List.length_pos_iff.2 x2
      have hhd := headD_get _ hlen
      rw [hhd] at hE
      rcases r2 with ⟨-, z⟩ | ⟨tb, tO, tc, rfl, z1, z2, cs2, fz2, z3⟩
      · exact absurd z x2
      have hltb := (Array.getElem?_eq_some_iff.1 z3).1
      have e0 := r1.cell? (i := 0) rfl
      have e1 := z2 0 (rlOf s i).tg[0] (List.getElem?_eq_getElem hlen)
      have htg := x3 _ (List.getElem_mem hlen)
      have hTL : (0 : Int) < ((rlOf s i).tg.length : Int) := by omega
      rw [Nat.add_zero] at e1
      unfold strV at e1
      generalize (rlOf s i).tg[0] = t0g at *
      generalize (rlOf s i).tg.length = tgl at *
      obtain ⟨ab, cb, hub⟩ := p3.sh
      subst hub
      obtain ⟨bb', bo', hbb⟩ := p3.rd
      have hbf := before_le 37 t0g
      have haf := after_len 37 t0g
      have hsl := stemB_len name t0g
      have bX := (Below.refl wr.heap.size wr).alloc (Nat.le_refl _) (.cells #[ptrV rb i, .slice ab bs.length cb] 275)
      have rX := Row.new wr 275 [ptrV rb i, .slice ab bs.length cb]
      have CS := hide (stemOf_any name t0g (wr.alloc (.cells #[ptrV rb i, .slice ab bs.length cb] 275)) (hM.glob.later bX) hnm (by omega) (by omega) (by omega))
      have CT : Hid (∀ w, Below wr.heap.size wr w → Calls Tryz.prog 141 #[.pointer (some ⟨wk, 0, none⟩), .slice ab bs.length cb, .string ⟨(stemB name t0g).1.toArray⟩] w fun e w' => e = .returned (.bool (bs.all (thereB fs (tgB s) (stemB name t0g).1))) ∧ Below w.heap.size w w') := fun w hw =>
        areThere_any bs (stemB name t0g).1 ab cb bb' bo' (hM.later hw).at (fun e => ⟨(hbb e).1, Nat.lt_of_lt_of_le (hbb e).2.1 hw.size, (hbb e).2.2.below hw (hbb e).2.1⟩) (by omega) (fun n hn => ⟨by have := x5 n hn; omega, by
          have h1 := x5 n hn
          have h2 := cnt_le n
          have h3 : Lib.countB ⟨n.toArray⟩ ⟨#[37]⟩ * (stemB name t0g).1.length ≤ 2000 * 1073741824 := Nat.mul_le_mul (by omega) (by omega)
          omega⟩)
      have HBX := hide bX
      have HRX := hide rX
      have HB := hide hb
      clear hM q2 p3 r1 z2 z3 hbb bX rX hdr q1 x2 x3 x5 hhd HI hb
      unfold ptrV at p1 HRX
      generalize stemB name t0g = SB at *
      obtain ⟨S, ok⟩ := SB
      simp only at hE hsl CS CT
      generalize bs.all (thereB fs (tgB s) S) = al at *
      cases ok with
      | false =>
        have HE : Hid (FtI W s fs name us (j + 1) wr) := ⟨unhide HB, by rw [hE, if_neg (by simp)]⟩
        clear hE CT
        unfold ptrV at CS HBX
        go_wp2_with (first
          | (go_at_call 273; refine (unhide CS).mono ?_; clear CS; rintro e w1 ⟨rfl, hb1⟩; have HI1 : Hid (FtI W s fs name us (j + 1) w1) := ⟨(unhide HB).trans (((unhide HBX).trans (hb1.mono (unhide HBX).size)).mono hsz), (unhide HE).eq⟩; clear hb1)
          | fail)
        go_roundw
        case rel => exact ⟨j + 1, by go_num, by omega, HI1⟩
        case measure => simp only [intN]; omega
      | true =>
        cases al with
        | false =>
          have HE : Hid (FtI W s fs name us (j + 1) wr) := ⟨unhide HB, by rw [hE, if_neg (by simp)]⟩
          clear hE
          unfold ptrV at CS HBX
          go_wp2_with (first
            | (go_at_call 273; refine (unhide CS).mono ?_; clear CS; rintro e w1 ⟨rfl, hb1⟩; have y1 := ((unhide HRX).later hb1).cell? (i := 1) rfl; have HB1 := hide ((unhide HBX).trans (hb1.mono (unhide HBX).size)); clear hb1)
            | (go_at_call 141; refine (unhide CT w1 (unhide HB1)).mono ?_; clear CT; rintro e w2 ⟨rfl, hb2⟩; have HI1 : Hid (FtI W s fs name us (j + 1) w2) := ⟨(unhide HB).trans (((unhide HB1).trans (hb2.mono (unhide HB1).size)).mono hsz), (unhide HE).eq⟩; clear hb2)
            | fail)
          go_roundw
          case rel => exact ⟨j + 1, by go_num, by omega, HI1⟩
          case measure => simp only [intN]; omega
        | true =>
          have HE : Hid (fitL s fs name us = some (i, S)) := by
            show _ = _
            rw [hE, if_pos ⟨rfl, rfl⟩]
          clear hE
          unfold ptrV at CS HBX
          go_wp2_with (first
            | (go_at_call 273; refine (unhide CS).mono ?_; clear CS; rintro e w1 ⟨rfl, hb1⟩; have HR1 := hide ((unhide HRX).later hb1); have y1 := (unhide HR1).cell? (i := 1) rfl; have HB1 := hide ((unhide HBX).trans (hb1.mono (unhide HBX).size)); clear hb1)
            | (go_at_call 141; refine (unhide CT w1 (unhide HB1)).mono ?_; clear CT; rintro e w2 ⟨rfl, hb2⟩; have y0 := ((unhide HR1).later hb2).cell? (i := 0) rfl; have HB2 := hide ((unhide HB).trans (((unhide HB1).trans (hb2.mono (unhide HB1).size)).mono hsz)); clear hb2)
            | fail)
          go_ret3
          rw [unhide HE]
          exact ⟨rfl, unhide HB2⟩
    · have hje : j = us.length := by omega
      subst hje
      have t1 : ¬ (us.length : Int) < us.length := by omega
      have hE := (unhide HI).eq
      rw [List.drop_length, fitL] at hE
      have HE := hide hE
      have HB := hide (unhide HI).below
      clear hE HI
      go_wp2_with fail
      go_ret3
      rw [unhide HE]
      exact ⟨rfl, unhide HB⟩
end
end Go.Proofs.YtjelacjggijmfaaGreatDoor
namespace Go.Proofs.YtjelacjggijmfaaGreatDoor
open Go.RowKit Go.MapKept Go.ChangeMaps Go.Maps

theorem Tryz.infoPat : (Tryz.prog.info? 275).map (fun i => (i.zero, i.size, i.bytes)) = some (some (.agg #[.pointer none, .slice none 0 0]), 2, 32) := by kernel_rfl
def byS (s : St) (i : Nat) : List Pl.Bs := (rlOf s i).nd.filter placeB
def othS (s : St) (i : Nat) : List Pl.Bs := (rlOf s i).nd.filter (fun n => !placeB n)
def useB (s : St) (fs : List Pl.File) (i : Nat) : Bool := decide (0 < (rlOf s i).cs.length) && (othS s i).all (thereB fs (tgB s) [])
def usL (s : St) (fs : List Pl.File) (xs : List Nat) : List (Nat × List Pl.Bs) := (xs.filter (useB s fs)).map fun i => (i, byS s i)
def paC (rb : Nat → Nat) (ps : List (Nat × Value)) : List Value := ps.flatMap fun p => [ptrV rb p.1, p.2]
theorem paC_len (rb : Nat → Nat) : ∀ ps : List (Nat × Value), (paC rb ps).length = ps.length * 2
  | [] => rfl
  | p :: r => by
    have := paC_len rb r
    unfold paC at *
    rw [List.flatMap_cons, List.length_append, this, List.length_cons]
    simp; omega
theorem paC_snoc (rb : Nat → Nat) (ps : List (Nat × Value)) (p : Nat × Value) : paC rb (ps ++ [p]) = paC rb ps ++ [ptrV rb p.1, p.2] := by
  unfold paC
  rw [List.flatMap_append]
  simp
theorem paC_get (rb : Nat → Nat) : ∀ (ps : List (Nat × Value)) (j : Nat) (p : Nat × Value), ps[j]? = some p → (paC rb ps)[j * 2]? = some (ptrV rb p.1) ∧ (paC rb ps)[j * 2 + 1]? = some p.2
  | [], _, _, h => by cases h
  | y :: r, 0, x, h => by
    cases h
    exact ⟨rfl, rfl⟩
  | y :: r, j + 1, x, h => by
    have ih := paC_get rb r j x h
    have e : paC rb (y :: r) = ptrV rb y.1 :: y.2 :: paC rb r := rfl
    rw [e, show (j + 1) * 2 = j * 2 + 2 by omega]
    exact ih
/-- The patterns so far. -/
structure UsI (W : World) (rb : Nat → Nat) (us : List (Nat × List Pl.Bs)) (u : Value) (X : World) : Prop where
  below : Below W.heap.size W X
  row : ∃ ps : List (Nat × Value), ps.length = us.length ∧ X.ownsRow W.heap.size 275 2 u us.length (paC rb ps) ∧ ∀ (k : Nat) (p : Nat × Value) (x : Nat × List Pl.Bs), ps[k]? = some p → us[k]? = some x → p.1 = x.1 ∧ SlT X p.2 x.2
/-- The needs of a pattern so far: those that hang on the stem, the others. -/
structure PtI (w0 : World) (nd : List Pl.Bs) (j : Nat) (u8 u9 : Value) (X : World) : Prop where
  below : Below w0.heap.size w0 X
  by' : X.ownsRow w0.heap.size 9 1 u8 ((nd.take j).filter placeB).length (((nd.take j).filter placeB).map strV)
  ot : X.ownsRow w0.heap.size 9 1 u9 ((nd.take j).filter (fun n => !placeB n)).length (((nd.take j).filter (fun n => !placeB n)).map strV)
  ne : ∀ k, u8.ownBlock = some k → u9.ownBlock = some k → False
section
variable {W X Y Z : World} {rb : Nat → Nat} {us : List (Nat × List Pl.Bs)} {u u8 u9 v6 : Value} {w0 : World} {nd : List Pl.Bs} {j : Nat}
theorem UsI.pat (h : UsI W rb us u X) : PaT X rb u us := by
  obtain ⟨ps, h1, h2, h3⟩ := h.row
  rcases h2.2 with ⟨e1, e2⟩ | ⟨g, cap, cur, e1, e2, e3, -⟩
  · exact .inl ⟨e1, List.eq_nil_of_length_eq_zero e2⟩
  · refine .inr ⟨g, 0, cap, e1, ⟨cur, _, e3⟩, fun k x hk => ?_⟩
    have hkl := (List.getElem?_eq_some_iff.1 hk).1
    have hp : ps[k]? = some ps[k] := List.getElem?_eq_getElem (by omega)
    obtain ⟨q1, q2⟩ := h3 k ps[k] x hp hk
    obtain ⟨c1, c2⟩ := paC_get rb ps k _ hp
    rw [e1] at h2
    rw [Nat.zero_add, ← q1]
    exact ⟨own_cell2 h2 _ _ c1, _, own_cell2 h2 _ _ c2, q2⟩
theorem UsI.later (h : UsI W rb us u X) (hb : Below X.heap.size X Y) : UsI W rb us u Y := by
  obtain ⟨ps, h1, h2, h3⟩ := h.row
  exact ⟨h.below.trans (hb.mono h.below.size), ps, h1, own_same h2 (fun k hk => hb.block k (h2.lt k hk).2), fun k p x hp hx => ⟨(h3 k p x hp hx).1, (h3 k p x hp hx).2.bl (Bl.below hb)⟩⟩
/-- One more pattern. -/
theorem UsI.push (h : UsI W rb us u X) {ps : List (Nat × Value)} (h1 : ps.length = us.length) (h2 : X.ownsRow W.heap.size 275 2 u us.length (paC rb ps)) (h3 : ∀ (k : Nat) (p : Nat × Value) (x : Nat × List Pl.Bs), ps[k]? = some p → us[k]? = some x → p.1 = x.1 ∧ SlT X p.2 x.2) {i : Nat} {bs : List Pl.Bs} {ub : Value} (hub : SlT X ub bs) (hown : Y.ownsRow W.heap.size 275 2 v6 (us.length + 1) (paC rb ps ++ [ptrV rb i, ub])) (hg : X.grownBy Y u.ownBlock) : UsI W rb (us ++ [(i, bs)]) v6 Y := by
  have hbl : Bl X Y := by
    have key : ∀ (k : Nat) (cs : Array Value) (e : TypeId) (fz : Nat × Nat), X.heap[k]? = some (Obj.cells cs e fz) → e ≠ 275 → Y.heap[k]? = X.heap[k]? := fun k cs e fz hk he => hg.block k (Array.getElem?_eq_some_iff.1 hk).1 (fun q => by
      obtain ⟨cur, fz', q2⟩ := own_type h2 k q.symm
      rw [q2] at hk; cases hk; exact he rfl)
    exact ⟨fun k cs fz hk => key k cs _ fz hk (by decide), fun k cs fz hk => key k cs _ fz hk (by decide), fun k cs fz hk => key k cs _ fz hk (by decide), fun k cs fz hk => key k cs _ fz hk (by decide), fun k cs fz hk => key k cs _ fz hk (by decide)⟩
  refine ⟨h.below.trans ((Tn.grown (p := fun k => W.heap.size ≤ k) hg (fun k e => (h2.lt k e).1)).below h.below.size (fun k e => e)), ps ++ [(i, ub)], by simp [h1], ?_, fun k p x hp hx => ?_⟩
  · rw [paC_snoc, List.length_append]
    exact hown
  · by_cases hk : k < ps.length
    · rw [List.getElem?_append_left hk] at hp
      rw [List.getElem?_append_left (by omega)] at hx
      exact ⟨(h3 k p x hp hx).1, (h3 k p x hp hx).2.bl hbl⟩
    · have hke : k = ps.length := by
        have := (List.getElem?_eq_some_iff.1 hp).1
        simp at this
        omega
      subst hke
      rw [List.getElem?_append_right (Nat.le_refl _), Nat.sub_self] at hp
      rw [List.getElem?_append_right (by omega), h1, Nat.sub_self] at hx
      cases hp
      cases hx
      exact ⟨rfl, hub.bl hbl⟩
theorem PtI.yes (h : PtI w0 nd j u8 u9 X) (hj : j < nd.length) (hp : placeB nd[j] = true) (bY : Below X.heap.size X Y) (hown : Z.ownsRow w0.heap.size 9 1 v6 (((nd.take j).filter placeB).length + 1) (((nd.take j).filter placeB).map strV ++ [strV nd[j]])) (hg : Y.grownBy Z u8.ownBlock) (hf : v6.ownBlock = u8.ownBlock ∨ v6.ownBlock = some Y.heap.size) : PtI w0 nd (j + 1) v6 u9 Z := by
  have e1 : (nd.take (j + 1)).filter placeB = (nd.take j).filter placeB ++ [nd[j]] := by rw [List.take_succ_eq_append_getElem hj, List.filter_append]; simp [hp]
  have e2 : (nd.take (j + 1)).filter (fun n => !placeB n) = (nd.take j).filter (fun n => !placeB n) := by rw [List.take_succ_eq_append_getElem hj, List.filter_append]; simp [hp]
  have hs := h.below.size
  have hap : u9.ownBlock = none ∨ u9.ownBlock ≠ u8.ownBlock := by
    cases e : u9.ownBlock with
    | none => exact .inl rfl
    | some k => exact .inr (fun q => h.ne k q.symm e)
  have hoY := own_same (W := Y) h.ot (fun k hk => bY.block k (h.ot.lt k hk).2)
  refine ⟨(h.below.trans (bY.mono hs)).trans ((Tn.grown (p := fun k => w0.heap.size ≤ k) hg (fun k e => (h.by'.lt k e).1)).below (Nat.le_trans hs bY.size) (fun k e => e)), by rw [e1, List.length_append, List.map_append]; exact hown, by rw [e2]; exact World.ownsRow.kept hoY hg hap, fun k q1 q2 => ?_⟩
  · rcases hf with hf | hf
    · exact h.ne k (hf ▸ q1) q2
    · rw [hf] at q1; cases q1; have := (hoY.lt _ q2).2; omega
theorem PtI.no (h : PtI w0 nd j u8 u9 X) (hj : j < nd.length) (hp : placeB nd[j] = false) (bY : Below X.heap.size X Y) (hown : Z.ownsRow w0.heap.size 9 1 v6 (((nd.take j).filter (fun n => !placeB n)).length + 1) (((nd.take j).filter (fun n => !placeB n)).map strV ++ [strV nd[j]])) (hg : Y.grownBy Z u9.ownBlock) (hf : v6.ownBlock = u9.ownBlock ∨ v6.ownBlock = some Y.heap.size) : PtI w0 nd (j + 1) u8 v6 Z := by
  have e1 : (nd.take (j + 1)).filter placeB = (nd.take j).filter placeB := by rw [List.take_succ_eq_append_getElem hj, List.filter_append]; simp [hp]
  have e2 : (nd.take (j + 1)).filter (fun n => !placeB n) = (nd.take j).filter (fun n => !placeB n) ++ [nd[j]] := by rw [List.take_succ_eq_append_getElem hj, List.filter_append]; simp [hp]
  have hs := h.below.size
  have hap : u8.ownBlock = none ∨ u8.ownBlock ≠ u9.ownBlock := by
    cases e : u8.ownBlock with
    | none => exact .inl rfl
    | some k => exact .inr (fun q => h.ne k e q.symm)
  have hoY := own_same (W := Y) h.by' (fun k hk => bY.block k (h.by'.lt k hk).2)
  refine ⟨(h.below.trans (bY.mono hs)).trans ((Tn.grown (p := fun k => w0.heap.size ≤ k) hg (fun k e => (h.ot.lt k e).1)).below (Nat.le_trans hs bY.size) (fun k e => e)), by rw [e1]; exact World.ownsRow.kept hoY hg hap, by rw [e2, List.length_append, List.map_append]; exact hown, fun k q1 q2 => ?_⟩
  · rcases hf with hf | hf
    · exact h.ne k q1 (hf ▸ q2)
    · rw [hf] at q2; cases q2; have := (hoY.lt _ q1).2; omega
end
end Go.Proofs.YtjelacjggijmfaaGreatDoor
