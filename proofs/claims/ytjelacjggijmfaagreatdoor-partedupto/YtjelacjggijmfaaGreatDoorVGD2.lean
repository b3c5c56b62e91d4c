/-
  The book: a rule comes to its targets.
  The reader: a command comes to the rule that is open.
-/
import Derived.Test.YtjelacjggijmfaaGreatDoorVGC5
import Derived.Deep.QuietTactic
import Derived.Deep.RegionHeldLaw
namespace Go.Proofs.YtjelacjggijmfaaGreatDoor
open Go.RowKit Go.MapKept Go.ChangeMaps Go.Maps

theorem Tryz.infoCmd : (Tryz.prog.info? 202).map (fun i => (i.zero, i.size, i.bytes)) = some (some (.agg #[.string ⟨#[]⟩, .int .i64 0]), 2, 24) := by kernel_rfl
def opV (rb : Nat → Nat) : Option Nat → Value
  | none => .pointer none
  | some i => ptrV rb i
theorem cmd_ones (x : Pl.Bs) (n : Int) : ∀ u ∈ [strV x, Value.int .i64 n], u.oneCell' = true := by
  intro u hu
  simp only [List.mem_cons, List.not_mem_nil, or_false] at hu
  rcases hu with e | e
  · subst e; rfl
  · subst e; rfl
/-- A world that goes on from another. -/
structure BW (W0 : World) where
  val : World
  ok : Below W0.heap.size W0 val
theorem BW.cell {W0 : World} {a : Addr} {v : Value} (h : W0.cell? a = some v) (p : BW W0) : p.val.cell? a = some v := (p.ok.cell (p := a) (World.block_lt_of_cell? W0 _ h)).trans h
/-- A region that draws, whose operations read and whose callees lay blocks of their own, walked once. -/
theorem wp_region_on {P : Program} {id : Nat} {Q : Exit → Act → World → Prop} {a : Act} {w : World} {l : List Oper} (W0 : World) (h0 : Below W0.heap.size W0 w.drew) (hm : P.follows .mixedOrders = true) (hB : Region.lexB .any l.toArray = true)
    (h : wpQuiet P l.toArray (fun w' => ∃ p : BW W0, w' = p.val) (fun a' => ∀ w', (∃ p : BW W0, w' = p.val) → Q .normal a' w') l a) : (Code.region id l.toArray true).wp P Q a w :=
  wp_region_quiet (C := fun w' => ∃ p : BW W0, w' = p.val) hm hB ⟨⟨w.drew, h0⟩, rfl⟩ (by simpa using h)
section
variable {W X : World} {F G : Foot} {c : Ad} {rb : Nat → Nat} {s : St}
theorem SlF.rdn {a : Option Addr} {n cap : Nat} {ws : List Pl.Bs} (h : SlF W F (.slice a n cap) ws) : n = ws.length ∧ ∃ b o, 0 < ws.length → a = some ⟨b, o, none⟩ ∧ b < W.heap.size ∧ RdN W b o ws := by
  rcases h with ⟨h1, h2⟩ | ⟨b, o, c, h1, h2, h3, h4, h5⟩
  · cases h1; subst h2; exact ⟨rfl, 0, 0, fun e => by simp at e⟩
  · cases h1; exact ⟨rfl, b, o, fun _ => ⟨rfl, h2, h4⟩⟩
theorem row_ne_own {b e B n size : Nat} {t : TypeId} {vs xs : List Value} {v : Value} (h : Row W b t vs) (ho : W.ownsRow B e size v n xs) (hne : t ≠ e) : some b ≠ v.ownBlock := fun q => by
  obtain ⟨cur, fz, h1⟩ := own_type ho b q.symm
  unfold Row at h
  rw [h] at h1
  cases h1
  exact hne rfl
/-- A command is put behind a rule's commands. -/
theorem cmdGrow (h : RdM W F c rb s) {i : Nat} {r : Rl} {vt vn vc : Value} (hr : s.rules[i]? = some r) (hR : Row W (rb i) 273 [vt, vn, vc]) (h1 : SlF W F vt r.tg) (h2 : SlF W F vn r.nd) (h3 : CRow W F (.cmds i) vc r.cs) {x : Pl.Bs × Nat} {v' : Value} {X : World} (hown : X.ownsRow 0 202 2 v' (r.cs.length + 1) (cmC r.cs ++ [strV x.1, .int .i64 (x.2 : Int)])) (hg : W.grownBy X vc.ownBlock) (hf : v'.ownBlock = vc.ownBlock ∨ v'.ownBlock = some W.heap.size) :
    Row X (rb i) 273 [vt, vn, vc] ∧ ∃ F', RdM (X.setCell ⟨rb i, 2, none⟩ v') F' c rb { s with rules := s.rules.set i { r with cs := r.cs ++ [x] } } ∧ Fr F F' W (X.setCell ⟨rb i, 2, none⟩ v') :=
  ⟨hR.grown hg (row_ne_own hR h3.1 (by decide)), _, h.toCmd hr hR h1 h2 h3 hown hg hf⟩
set_option maxHeartbeats 4000000 in
theorem command_any (op : Option Nat) (l : Mk.Ln) (h : RdM W F c rb s) (hop : ∀ i, op = some i → i < s.rules.length) (hol : ∀ name, (s.of name).length ≤ 1073741824) (htl : ∀ r ∈ s.rules, r.tg.length ≤ 1073741824) (hcl : ∀ r ∈ s.rules, r.cs.length < 4294967296) :
    Calls Tryz.prog 136 #[.pointer (some ⟨c.rd, 0, none⟩), opV rb op, lnV l] W fun e W' => e = .returned (.int .i64 ((commandF s op l).1 : Int)) ∧ ∃ F', RdM W' F' c rb (commandF s op l).2 ∧ Fr F F' W W' := by
  obtain ⟨num, kind, L, R⟩ := l
  have b0 := (Below.refl W.heap.size W).alloc (Nat.le_refl _) (.cells #[.int .i64 num, .int .i64 kind, .string ⟨L.toArray⟩, .string ⟨R.toArray⟩] 164)
  cases op with
  | none =>
    have HR := hide (h.later b0)
    have HF := hide (Fr.later (F := F) b0)
    have hA : commandF s none ⟨num, kind, L, R⟩ = (1, s) := rfl
    rw [hA]
    clear h hop hA b0
    go_enter Tryz.func136, Tryz.ntmps136
    unfold lnV opV
    go_wp2_with fail
    go_ret
    exact ⟨rfl, F, unhide HR, unhide HF⟩
  | some i =>
    obtain ⟨i0, hi0, hz0, hz1, hz2⟩ := info_parts Tryz.infoCmd
    have hi := hop i rfl
    have hr := List.getElem?_eq_getElem hi
    have hm := List.getElem_mem hi
    have htl' := htl _ hm
    have hcl' := hcl _ hm
    have hA : commandF s (some i) ⟨num, kind, L, R⟩ = if s.rules[i].cs.length = 0 ∧ (s.rules[i].tg.any fun t => (s.of t).any (hcB s)) = true then (6, s) else (0, { s with rules := s.rules.set i { s.rules[i] with cs := s.rules[i].cs ++ [(R, num)] } }) := by
      unfold commandF
      simp only [hr]
    generalize s.rules[i] = r at *
    obtain ⟨vt, vn, vc, q1, q2, q3, q4⟩ := h.rules i r hr
    obtain ⟨ac, cap, hvc⟩ := own_sh q4.1
    obtain ⟨at_, ct, hvt⟩ := q2.sls.sh
    subst hvc hvt
    have l1 : c.rd < W.heap.size := h.row.lt
    have l2 : rb i < W.heap.size := q1.lt
    have e0 := q1.cell? (i := 0) rfl
    have e2 := q1.cell? (i := 2) rfl
    have c1 := h.row.cell? (i := 1) rfl
    obtain ⟨vp, ll, hHc⟩ := h.hcm hol
    obtain ⟨-, tb, tO, htb⟩ := q2.rdn
    have CH : Hid (∀ w, Below W.heap.size W w → Calls Tryz.prog 181 #[.pointer (some ⟨c.bb, 0, none⟩), .slice at_ r.tg.length ct] w fun e w' => e = .returned (.bool (r.tg.any fun t => (s.of t).any (hcB s))) ∧ Below w.heap.size w w') := fun w hw => by
      rw [← h.any r.tg]
      exact hasCommands_any r.tg at_ ct tb tO (hHc.later hw) (fun e => ⟨(htb e).1, Nat.lt_of_lt_of_le (htb e).2.1 hw.size, (htb e).2.2.below hw (htb e).2.1⟩) htl'
    have HQ : Hid (∀ w, Below W.heap.size W w → RdM w F c rb s ∧ Fr F F W w ∧ Row w (rb i) 273 [.slice at_ r.tg.length ct, vn, .slice ac r.cs.length cap] ∧ SlF w F (.slice at_ r.tg.length ct) r.tg ∧ SlF w F vn r.nd ∧ CRow w F (.cmds i) (.slice ac r.cs.length cap) r.cs) := fun w hw => by
      have h' := h.later hw
      refine ⟨h', Fr.later hw, q1.later hw, ?_, ?_, ?_⟩
      · exact q2.same hw.size (fun k hk e => ⟨hw.block k hk, e⟩)
      · exact q3.same hw.size (fun k hk e => ⟨hw.block k hk, e⟩)
      · exact q4.same (fun k e => ⟨hw.block k (h.lt e), e⟩)
    clear hHc htb q1 q2 q3 q4
    generalize (r.tg.any fun t => (s.of t).any (hcB s)) = qb at *
    have HB0 := hide b0
    have HH := hide h
    clear h hop b0
    have rL := Row.new W 164 [.int .i64 num, .int .i64 kind, .string ⟨L.toArray⟩, .string ⟨R.toArray⟩]
    obtain ⟨W0, hW0⟩ : ∃ W0, W0 = W.alloc (.cells #[.int .i64 num, .int .i64 kind, .string ⟨L.toArray⟩, .string ⟨R.toArray⟩] 164) := ⟨_, rfl⟩
    have hrL : Row W0 W.heap.size 164 [.int .i64 num, .int .i64 kind, .string ⟨L.toArray⟩, .string ⟨R.toArray⟩] := by rw [hW0]; exact rL
    have hb0 : Below W.heap.size W W0 := by rw [hW0]; exact unhide HB0
    have g0 : ∀ p : BW W0, p.val.cell? ⟨rb i, 0, none⟩ = some (.slice at_ r.tg.length ct) := BW.cell ((hb0.cell (p := ⟨rb i, 0, none⟩) l2).trans e0)
    have g2 : ∀ p : BW W0, p.val.cell? ⟨rb i, 2, none⟩ = some (.slice ac r.cs.length cap) := BW.cell ((hb0.cell (p := ⟨rb i, 2, none⟩) l2).trans e2)
    have g1 : ∀ p : BW W0, p.val.cell? ⟨c.rd, 1, none⟩ = some (.pointer (some ⟨c.bb, 0, none⟩)) := BW.cell ((hb0.cell (p := ⟨c.rd, 1, none⟩) l1).trans c1)
    have hcall : ∀ p : BW W0, Calls Tryz.prog 181 #[.pointer (some ⟨c.bb, 0, none⟩), .slice at_ r.tg.length ct] p.val fun e w'' => e = .returned (.bool qb) ∧ ∃ p' : BW W0, w'' = p'.val := fun p => (unhide CH p.val (hb0.trans (p.ok.mono hb0.size))).mono (fun e w'' ⟨h1, h2⟩ => ⟨h1, ⟨w'', p.ok.trans (h2.mono p.ok.size)⟩, rfl⟩)
    have HCALL := hide hcall
    have hne : Nonempty (BW W0) := ⟨⟨W0, Below.refl _ _⟩⟩
    have HW0 := hide hW0
    have HBW := hide hb0
    have HRL := hide hrL
    clear hcall hW0 hb0 hrL rL e0 e2 c1 CH HB0
    by_cases hz : r.cs.length = 0
    · have tz : (((r.cs.length : Nat) : Int) == 0) = true := by rw [beq_iff_eq]; omega
      cases qb with
      | true =>
        have HA0 : Hid (commandF s (some i) ⟨num, kind, L, R⟩ = (6, s)) := by
          show _ = _
          rw [hA, if_pos ⟨hz, rfl⟩]
        clear hA hz
        go_enter Tryz.func136, Tryz.ntmps136
        unfold lnV opV ptrV
        go_upto_region 3 with fail
        rw [← unhide HW0]
        refine wp_region_on W0 (Below.refl _ W0).drew (by kernel_rfl) (by kernel_rfl) ?_
        repeat (first | go_big_quiet_skip | quiet_step (exact unhide HCALL _))
        refine wpQuiet_nil ?_
        rintro _ ⟨p, rfl⟩
        obtain ⟨w, hw⟩ := p
        obtain ⟨m, f, -⟩ := unhide HQ w ((unhide HBW).trans (hw.mono (unhide HBW).size))
        have HM := hide m
        have HF := hide f
        simp only
        clear m f hw g0 g1 g2 HCALL hne HQ
        go_wp2_with fail
        go_ret
        exact ⟨by rw [unhide HA0]; rfl, F, by rw [unhide HA0]; exact unhide HM, unhide HF⟩
      | false =>
        have HA0 : Hid (commandF s (some i) ⟨num, kind, L, R⟩ = (0, { s with rules := s.rules.set i { r with cs := r.cs ++ [(R, num)] } })) := by
          show _ = _
          rw [hA, if_neg (by simp)]
        clear hA hz
        go_enter Tryz.func136, Tryz.ntmps136
        unfold lnV opV ptrV
        go_upto_region 3 with fail
        rw [← unhide HW0]
        refine wp_region_on W0 (Below.refl _ W0).drew (by kernel_rfl) (by kernel_rfl) ?_
        repeat (first | go_big_quiet_skip | quiet_step (exact unhide HCALL _))
        refine wpQuiet_nil ?_
        rintro _ ⟨p, rfl⟩
        obtain ⟨w, hw⟩ := p
        have hbw := (unhide HBW).trans (hw.mono (unhide HBW).size)
        have hlr := (unhide HRL).later hw
        have k0 := hlr.cell? (i := 0) rfl
        have k3 := hlr.cell? (i := 3) rfl
        have hlt := hlr.lt
        have l3 : rb i < w.heap.size := Nat.lt_of_lt_of_le l2 hbw.size
        obtain ⟨m, f, q1, q2, q3, q4⟩ := unhide HQ w hbw
        have y2 := q1.cell? (i := 2) rfl
        have bY : Below w.heap.size w (w.drew.alloc (.cells #[.string ⟨R.toArray⟩, .int .i64 (num : Int)] 202)) := ((Below.refl w.heap.size w).drew).alloc (Nat.le_refl _) _
        obtain ⟨mY, fY, q1Y, q2Y, q3Y, q4Y⟩ := unhide HQ _ (hbw.trans (bY.mono hbw.size))
        have HMY := hide mY
        have HFY := hide fY
        have HQ1 := hide q1Y
        have HQ2 := hide q2Y
        have HQ3 := hide q3Y
        have HQ4 := hide q4Y
        have HLY := hide (hlr.later bY)
        have HNL : Hid ((Value.slice ac r.cs.length cap).ownBlock ≠ some W.heap.size) := fun e => row_ne_own (hlr.later bY) q4Y.1 (by decide) e.symm
        have hnl : rb i ≠ W.heap.size := by omega
        have HRX := hide (Row.new w.drew 202 [.string ⟨R.toArray⟩, .int .i64 (num : Int)])
        simp only
        clear m f q1 q2 q3 q4 mY fY q1Y q2Y q3Y q4Y hlr bY hbw hw g0 g1 g2 HCALL hne HQ
        go_wp2_with fail
        go_region_law (first
          | (refine step_append_fresh rfl (.tmp 30) (.tmp 36) 195 rfl 0 202 i0 _ 2 24 Tryz.underlying195 hi0 hz0 hz1 hz2 rfl (by decide) (.slice ac r.cs.length cap) r.cs.length (cmC r.cs) (by rfl) (unhide HQ4).1 ⟨w.heap.size, 0, none⟩ 1 1 [strV R, .int .i64 (num : Int)] (by rfl) (by rfl) (fun j u hj => by rw [addr_add0]; exact (unhide HRX).cell? hj) (cmd_ones R num) (by unfold maxLen; omega) (by omega) (Nat.zero_le _) ?_; intro v6 w6 hown6 hgrow6 hf6; obtain ⟨a6, c6, rfl⟩ := own_sh hown6; obtain ⟨x1, hR6⟩ := cmdGrow (x := (R, num)) (unhide HMY) hr (unhide HQ1) (unhide HQ2) (unhide HQ3) (unhide HQ4) hown6 hgrow6 hf6; have y6 := x1.cell? (i := 2) rfl; have kk := (unhide HLY).grown hgrow6 (fun e => unhide HNL e.symm); have kk0 := kk.cell? (i := 0) rfl; have kk3 := kk.cell? (i := 3) rfl; have z6 := x1.frozen 2; have HR6 := hide hR6; clear hR6 hown6 hgrow6 hf6 x1 kk)
          | fail)
        all_goals go_wp2_with fail
        all_goals go_ret
        all_goals (obtain ⟨G6, m6, f6⟩ := unhide HR6; exact ⟨by rw [unhide HA0]; rfl, G6, by rw [unhide HA0]; exact m6, (unhide HFY).trans f6⟩)
    · have tz : (((r.cs.length : Nat) : Int) == 0) = false := by rw [beq_eq_false_iff_ne]; omega
      have HA0 : Hid (commandF s (some i) ⟨num, kind, L, R⟩ = (0, { s with rules := s.rules.set i { r with cs := r.cs ++ [(R, num)] } })) := by
        show _ = _
        rw [hA, if_neg (fun e => hz e.1)]
      clear hA hz
      go_enter Tryz.func136, Tryz.ntmps136
      unfold lnV opV ptrV
      go_upto_region 3 with fail
      rw [← unhide HW0]
      refine wp_region_on W0 (Below.refl _ W0).drew (by kernel_rfl) (by kernel_rfl) ?_
      repeat (first | go_big_quiet_skip | quiet_step (exact unhide HCALL _))
      refine wpQuiet_nil ?_
      rintro _ ⟨p, rfl⟩
      obtain ⟨w, hw⟩ := p
      have hbw := (unhide HBW).trans (hw.mono (unhide HBW).size)
      have hlr := (unhide HRL).later hw
      have k0 := hlr.cell? (i := 0) rfl
      have k3 := hlr.cell? (i := 3) rfl
      have hlt := hlr.lt
      have l3 : rb i < w.heap.size := Nat.lt_of_lt_of_le l2 hbw.size
      obtain ⟨m, f, q1, q2, q3, q4⟩ := unhide HQ w hbw
      have y2 := q1.cell? (i := 2) rfl
      have bY : Below w.heap.size w (w.drew.alloc (.cells #[.string ⟨R.toArray⟩, .int .i64 (num : Int)] 202)) := ((Below.refl w.heap.size w).drew).alloc (Nat.le_refl _) _
      obtain ⟨mY, fY, q1Y, q2Y, q3Y, q4Y⟩ := unhide HQ _ (hbw.trans (bY.mono hbw.size))
      have HMY := hide mY
      have HFY := hide fY
      have HQ1 := hide q1Y
      have HQ2 := hide q2Y
      have HQ3 := hide q3Y
      have HQ4 := hide q4Y
      have HLY := hide (hlr.later bY)
      have HNL : Hid ((Value.slice ac r.cs.length cap).ownBlock ≠ some W.heap.size) := fun e => row_ne_own (hlr.later bY) q4Y.1 (by decide) e.symm
      have hnl : rb i ≠ W.heap.size := by omega
      have HRX := hide (Row.new w.drew 202 [.string ⟨R.toArray⟩, .int .i64 (num : Int)])
      simp only
      clear m f q1 q2 q3 q4 mY fY q1Y q2Y q3Y q4Y hlr bY hbw hw g0 g1 g2 HCALL hne HQ
      go_wp2_with fail
      go_region_law (first
        | (refine step_append_fresh rfl (.tmp 30) (.tmp 36) 195 rfl 0 202 i0 _ 2 24 Tryz.underlying195 hi0 hz0 hz1 hz2 rfl (by decide) (.slice ac r.cs.length cap) r.cs.length (cmC r.cs) (by rfl) (unhide HQ4).1 ⟨w.heap.size, 0, none⟩ 1 1 [strV R, .int .i64 (num : Int)] (by rfl) (by rfl) (fun j u hj => by rw [addr_add0]; exact (unhide HRX).cell? hj) (cmd_ones R num) (by unfold maxLen; omega) (by omega) (Nat.zero_le _) ?_; intro v6 w6 hown6 hgrow6 hf6; obtain ⟨a6, c6, rfl⟩ := own_sh hown6; obtain ⟨x1, hR6⟩ := cmdGrow (x := (R, num)) (unhide HMY) hr (unhide HQ1) (unhide HQ2) (unhide HQ3) (unhide HQ4) hown6 hgrow6 hf6; have y6 := x1.cell? (i := 2) rfl; have kk := (unhide HLY).grown hgrow6 (fun e => unhide HNL e.symm); have kk0 := kk.cell? (i := 0) rfl; have kk3 := kk.cell? (i := 3) rfl; have z6 := x1.frozen 2; have HR6 := hide hR6; clear hR6 hown6 hgrow6 hf6 x1 kk)
        | fail)
      all_goals go_wp2_with fail
      all_goals go_ret
      all_goals (obtain ⟨G6, m6, f6⟩ := unhide HR6; exact ⟨by rw [unhide HA0]; rfl, G6, by rw [unhide HA0]; exact m6, (unhide HFY).trans f6⟩)
end
end Go.Proofs.YtjelacjggijmfaaGreatDoor
namespace Go.Proofs.YtjelacjggijmfaaGreatDoor
open Go.RowKit Go.MapKept Go.ChangeMaps Go.Maps

theorem Tryz.infoPtr : (Tryz.prog.info? 265).map (fun i => (i.zero, i.size, i.bytes)) = some (some (.pointer none), 1, 8) := by kernel_rfl
theorem ptr_ones (rb : Nat → Nat) (i : Nat) : ∀ u ∈ [ptrV rb i], u.oneCell' = true := by
  intro u hu
  rw [List.mem_singleton] at hu
  subst hu
  rfl
theorem headD_get : ∀ (l : List Pl.Bs) (h : 0 < l.length), l.headD [] = l[0]
  | [], h => by simp at h
  | x :: r, _ => rfl
section
variable {W X : World} {F G : Foot} {c : Ad} {rb : Nat → Nat} {s : St}
theorem SlF.fr {v : Value} {ws : List Pl.Bs} (h : SlF W F v ws) (hf : Fr F G W X) : SlF X G v ws := h.same hf.tn.size (fun k hk e => ⟨hf.tn.block k hk (fun q => q e), hf.old k hk e⟩)
theorem SlF.later {v : Value} {ws : List Pl.Bs} (h : SlF W F v ws) (hb : Below W.heap.size W X) : SlF X F v ws := h.fr (Fr.later hb)
theorem PRow.later {t : Tag} {v : Value} {xs : List Nat} (h : PRow W F t v rb xs) (hb : Below W.heap.size W X) (hl : ∀ k, F k = some t → k < W.heap.size) : PRow X F t v rb xs := h.same (fun k e => ⟨hb.block k (hl k e), e⟩)
/-- Between two targets. -/
structure ExI (W : World) (F : Foot) (c : Ad) (rb : Nat → Nat) (s : St) (i : Nat) (tg : List Pl.Bs) (j : Nat) (X : World) : Prop where
  mem : ∃ G, RdM X G c rb ((tg.take j).foldl (ofAdd i) s) ∧ Fr F G W X
theorem fold_next (i : Nat) (s : St) (tg : List Pl.Bs) (j : Nat) (h : j < tg.length) : (tg.take (j + 1)).foldl (ofAdd i) s = ofAdd i ((tg.take j).foldl (ofAdd i) s) tg[j] := by
  rw [List.take_succ_eq_append_getElem h, List.foldl_append]
  rfl
/-- A rule is put behind those of a target. -/
theorem entGrow {i : Nat} {name : Pl.Bs} {l : Ents} {v v' : Value} {X : World} (h : RdM W F c rb s) (hi : i < s.rules.length) (hl : SMap W c.bt l) (hll : l.length ≤ s.tl) (hP : ∀ n, PRow W F (.ent n) ((mget l n).getD (.slice none 0 0)) rb (s.of n)) (hv : (mget l name).getD (.slice none 0 0) = v) (hb : s.tl < 1073741824) (hown : X.ownsRow 0 265 1 v' ((s.of name).length + 1) ((s.of name).map (ptrV rb) ++ [ptrV rb i])) (hg : W.grownBy X v.ownBlock) (hf : v'.ownBlock = v.ownBlock ∨ v'.ownBlock = some W.heap.size) :
    ∃ Y, (Instr.mapUpdate 139 (.map (some c.bt)) (.string ⟨name.toArray⟩) v').run Tryz.prog X = .ok () Y ∧ ∃ G, RdM Y G c rb (ofAdd i s name) ∧ Fr F G W Y := by
  have hPn := hP name
  rw [hv] at hPn
  have hne : some c.bt ≠ v.ownBlock := fun e => by
    obtain ⟨cur, fz, q⟩ := own_type hPn.1 c.bt e.symm
    obtain ⟨es, clock, hk, _⟩ := hl
    rw [hk] at q
    cases q
  obtain ⟨Y, h1, h2, h3⟩ := (hl.kept hg hne).put (P := Tryz.prog) Tryz.underlying139 Tryz.underlying9 (by unfold maxLen; omega) name v'
  exact ⟨Y, h1, _, h.toOf hi hll hP hv hown hg hf h3 h2⟩
theorem lookEnt {l : Ents} (h : SMap W c.bt l) (name : Pl.Bs) : (Instr.lookup 139 (.map (some c.bt)) (.string ⟨name.toArray⟩) false).run Tryz.prog W = .ok ((mget l name).getD (.slice none 0 0)) W := by
  have := h.look (P := Tryz.prog) Tryz.underlying139 Tryz.underlying9 (zeroRules W) name false
  simpa [strV] using this
set_option maxHeartbeats 4000000 in
set_option maxRecDepth 100000 in
theorem explicit_any (i : Nat) (r : Rl) (h : RdM W F c rb s) (hr : s.rules[i]? = some r) (hne : r.tg ≠ []) (htl : s.tl + r.tg.length ≤ 1073741824) (hol : ∀ n, (s.of n).length ≤ s.tl) :
    Calls Tryz.prog 232 #[.pointer (some ⟨c.bb, 0, none⟩), ptrV rb i] W fun e W' => e = .returned (.tuple #[]) ∧ ∃ G, RdM W' G c rb (explicitF s r.tg i) ∧ Fr F G W W' := by
  obtain ⟨i0, hi0, hz0, hz1, hz2⟩ := info_parts Tryz.infoPtr
  have hil := (List.getElem?_eq_some_iff.1 hr).1
  obtain ⟨vp, hB, -⟩ := h.book
  obtain ⟨vt, vn, vc, q1, q2, -, -⟩ := h.rules i r hr
  rcases q2 with ⟨-, q⟩ | ⟨tb, tO, tc, rfl, hb1, hb2, hb3, hb4⟩
  · exact absurd q hne
  have q2 : SlF W F (.slice (some ⟨tb, tO, none⟩) r.tg.length tc) r.tg := .inr ⟨tb, tO, tc, rfl, hb1, hb2, hb3, hb4⟩
  have hlen : 0 < r.tg.length := List.length_pos_iff.2 hne
  have e0 := q1.cell? (i := 0) rfl
  have b2 := Row.cell? (i := 2) hB rfl
  have f2 := Row.frozen hB 2
  unfold strV at b2
  have cn := hb3 0 r.tg[0] (List.getElem?_eq_getElem hlen)
  unfold strV at cn
  rw [Nat.add_zero] at cn
  have hhd : r.tg.headD [] = r.tg[0] := headD_get _ hlen
  have hrb : rb i ≠ c.bb := fun e => by
    have := h.frb i hil
    rw [e, h.fbb] at this
    cases this
  have HH := hide h
  have HQ := hide q1
  have HB := hide hB
  have HS := hide q2
  clear h hB q2 hb3 hb4
  by_cases hf : s.first = []
  · have hse : s.first.isEmpty = true := by rw [hf]; rfl
    have HEX : Hid (explicitF s r.tg i = r.tg.foldl (ofAdd i) { s with first := r.tg[0] }) := by
      show _ = _
      unfold explicitF
      rw [if_pos hf, hhd]
    clear hhd hf
    have hT := (unhide HH).toFirst r.tg[0]
    unfold strV at hT
    have e1 := (Row.other (unhide HQ) hrb 2 (.string ⟨r.tg[0].toArray⟩)).cell? (i := 0) rfl
    have HX0 : Hid (ExI W F c rb { s with first := r.tg[0] } i r.tg 0 (W.setCell ⟨c.bb, 2, none⟩ (.string ⟨r.tg[0].toArray⟩))) := ⟨F, hT⟩
    clear hT
    generalize r.tg[0] = hd0 at *
    go_enter Tryz.func232, Tryz.ntmps232
    unfold ptrV
    go_wp2_with fail
    go_loopw [25] (fun iv wr => ∃ j : Nat, iv = .int .i64 j ∧ j ≤ r.tg.length ∧ Hid (ExI W F c rb { s with first := hd0 } i r.tg j wr)) (fun iv _ => r.tg.length - intN iv)
    case atStart => exact ⟨0, rfl, by omega, HX0⟩
    case round =>
      clear HX0 e0 b2 f2 cn
      obtain ⟨j, rfl, hj2, HX⟩ := hrel
      by_cases hj : j < r.tg.length
      · have t1 : (j : Int) < r.tg.length := by omega
        have t0 : (0 : Int) ≤ (j : Int) := by omega
        obtain ⟨G, hG, hFr⟩ := (unhide HX).mem
        obtain ⟨vp', hB', -⟩ := hG.book
        have d3 := Row.cell? (i := 3) hB' rfl
        have lb : c.bb < wr.heap.size := Row.lt hB'
        have q2' := (unhide HS).fr hFr
        rcases q2' with ⟨q, -⟩ | ⟨tb', tO1, tc', q, k1, k2, k3, -⟩
        · cases q
        cases q
        have cn := k3 j r.tg[j] (List.getElem?_eq_getElem hj)
        unfold strV at cn
        obtain ⟨l, hl, hll, hP⟩ := hG.tgts
        obtain ⟨a1, a2, a3, a4, a5, a6, a7, a8, a9, a10⟩ := ofAdd_fold i (r.tg.take j) { s with first := hd0 }
        have hnx := fold_next i { s with first := hd0 } r.tg j hj
        have htk : (r.tg.take j).length = j := by rw [List.length_take]; omega
        have hof : ∀ n, (((r.tg.take j).foldl (ofAdd i) { s with first := hd0 }).of n).length ≤ s.tl + j := fun n => by
          have := a10 hol n
          rw [htk] at this
          exact this
        have htj : ((r.tg.take j).foldl (ofAdd i) { s with first := hd0 }).tl = s.tl + j := by rw [a9, htk]
        have hij : i < ((r.tg.take j).foldl (ofAdd i) { s with first := hd0 }).rules.length := by rw [a2]; exact hil
        clear a1 a2 a3 a4 a5 a6 a7 a8 a9 a10 htk
        have HNX := hide hnx
        clear hnx k3
        generalize r.tg[j] = nme at *
        generalize (r.tg.take j).foldl (ofAdd i) { s with first := hd0 } = sj at *
        have hon := hof nme
        have bY := (((Below.refl wr.heap.size wr).drew).alloc (Nat.le_refl _) (.cells #[ptrV rb i] 265))
        have hL1 := lookEnt (W := wr.drew) (hl.later (Below.refl _ wr).drew) nme
        have hL2 := lookEnt (W := wr.drew.alloc (.cells #[ptrV rb i] 265)) (hl.later bY) nme
        obtain ⟨v, hv⟩ : ∃ v, v = (mget l nme).getD (.slice none 0 0) := ⟨_, rfl⟩
        rw [← hv] at hL1 hL2
        have HL := hide (hl.later bY)
        have HGY := hide (hG.later bY)
        have HPY : Hid (∀ n, PRow (wr.drew.alloc (.cells #[ptrV rb i] 265)) G (.ent n) ((mget l n).getD (.slice none 0 0)) rb (sj.of n)) := fun n => (hP n).later bY (fun k e => hG.lt e)
        have HOW := hide (hv ▸ (unhide HPY nme).1)
        have HFY := hide (hFr.trans (Fr.later bY))
        have HV := hide hv.symm
        have rX := Row.new wr.drew 265 [ptrV rb i]
        have HRX := hide rX
        have hL3 : (Instr.lookup 139 (.map (some c.bt)) (.string ⟨nme.toArray⟩) false).run Tryz.prog (wr.alloc (.cells #[.pointer (some ⟨rb i, 0, none⟩)] 265)).drew = .ok v (wr.alloc (.cells #[.pointer (some ⟨rb i, 0, none⟩)] 265)).drew := hL2
        clear hL2
        have HBY := hide (Row.later hB' bY)
        have dY := Row.cell? (i := 3) (unhide HBY) rfl
        clear hl hP hG hFr bY hv rX hB'
        go_wp2_with fail
        go_region_held_law (fun w' => w'.cell? ⟨c.bb, 3, none⟩ = some (.map (some c.bt))) (first | exact d3 | exact dY | exact d6 | exact d7) (first
          | (refine step_append_fresh rfl (.tmp 39) (.tmp 41) 138 rfl 0 265 i0 _ 1 8 Tryz.underlying138 hi0 hz0 hz1 hz2 rfl (by decide) v (sj.of nme).length _ (by rfl) (unhide HOW) ⟨wr.heap.size, 0, none⟩ 1 1 [ptrV rb i] (by rfl) (by rfl) (fun j u hj => by rw [addr_add0]; exact (unhide HRX).cell? hj) (ptr_ones rb i) (by unfold maxLen; omega) (by omega) (Nat.zero_le _) ?_; intro v6 w6 hown6 hgrow6 hf6; obtain ⟨w7, hrun7, hR7⟩ := entGrow (unhide HGY) hij (unhide HL) hll (unhide HPY) (unhide HV) (by omega) hown6 hgrow6 hf6; have d6 := Row.cell? (i := 3) (Row.grown (unhide HBY) hgrow6 (row_ne_own (unhide HBY) (unhide HOW) (by decide))) rfl; obtain ⟨G7, m7, f7⟩ := hR7; obtain ⟨vp7, hB7, -⟩ := m7.book; have d7 := Row.cell? (i := 3) hB7 rfl; have HM7 := hide m7; have HF7 := hide f7; clear m7 f7 hB7 hown6 hgrow6 hf6)
          | fail)
        all_goals go_wp2_with fail
        all_goals go_roundw
        all_goals first
          | exact ⟨j + 1, by go_num, by omega, ⟨G7, by rw [unhide HNX]; exact unhide HM7, (unhide HFY).trans (unhide HF7)⟩⟩
          | (simp only [intN]; omega)
      · have hje : j = r.tg.length := by omega
        subst hje
        have t1 : ¬ (r.tg.length : Int) < r.tg.length := by omega
        have hmm := (unhide HX).mem
        rw [List.take_length] at hmm
        have HM := hide hmm
        clear hmm
        go_wp2_with fail
        go_end0
        exact ⟨rfl, by rw [unhide HEX]; exact unhide HM⟩
  · have hse : s.first.isEmpty = false := by rw [← Bool.not_eq_true, List.isEmpty_iff]; exact hf
    have HEX : Hid (explicitF s r.tg i = r.tg.foldl (ofAdd i) s) := by
      show _ = _
      unfold explicitF
      rw [if_neg hf]
    clear hhd hf
    have HX0 : Hid (ExI W F c rb s i r.tg 0 W) := ⟨F, unhide HH, Fr.refl _ _⟩
    go_enter Tryz.func232, Tryz.ntmps232
    unfold ptrV
    go_wp2_with fail
    go_loopw [25] (fun iv wr => ∃ j : Nat, iv = .int .i64 j ∧ j ≤ r.tg.length ∧ Hid (ExI W F c rb s i r.tg j wr)) (fun iv _ => r.tg.length - intN iv)
    case atStart => exact ⟨0, rfl, by omega, HX0⟩
    case round =>
      clear HX0 e0 b2 f2 cn
      obtain ⟨j, rfl, hj2, HX⟩ := hrel
      by_cases hj : j < r.tg.length
      · have t1 : (j : Int) < r.tg.length := by omega
        have t0 : (0 : Int) ≤ (j : Int) := by omega
        obtain ⟨G, hG, hFr⟩ := (unhide HX).mem
        obtain ⟨vp', hB', -⟩ := hG.book
        have d3 := Row.cell? (i := 3) hB' rfl
        have lb : c.bb < wr.heap.size := Row.lt hB'
        have q2' := (unhide HS).fr hFr
        rcases q2' with ⟨q, -⟩ | ⟨tb', tO1, tc', q, k1, k2, k3, -⟩
        · cases q
        cases q
        have cn := k3 j r.tg[j] (List.getElem?_eq_getElem hj)
        unfold strV at cn
        obtain ⟨l, hl, hll, hP⟩ := hG.tgts
        obtain ⟨a1, a2, a3, a4, a5, a6, a7, a8, a9, a10⟩ := ofAdd_fold i (r.tg.take j) s
        have hnx := fold_next i s r.tg j hj
        have htk : (r.tg.take j).length = j := by rw [List.length_take]; omega
        have hof : ∀ n, (((r.tg.take j).foldl (ofAdd i) s).of n).length ≤ s.tl + j := fun n => by
          have := a10 hol n
          rw [htk] at this
          exact this
        have htj : ((r.tg.take j).foldl (ofAdd i) s).tl = s.tl + j := by rw [a9, htk]
        have hij : i < ((r.tg.take j).foldl (ofAdd i) s).rules.length := by rw [a2]; exact hil
        clear a1 a2 a3 a4 a5 a6 a7 a8 a9 a10 htk
        have HNX := hide hnx
        clear hnx k3
        generalize r.tg[j] = nme at *
        generalize (r.tg.take j).foldl (ofAdd i) s = sj at *
        have hon := hof nme
        have bY := (((Below.refl wr.heap.size wr).drew).alloc (Nat.le_refl _) (.cells #[ptrV rb i] 265))
        have hL1 := lookEnt (W := wr.drew) (hl.later (Below.refl _ wr).drew) nme
        have hL2 := lookEnt (W := wr.drew.alloc (.cells #[ptrV rb i] 265)) (hl.later bY) nme
        obtain ⟨v, hv⟩ : ∃ v, v = (mget l nme).getD (.slice none 0 0) := ⟨_, rfl⟩
        rw [← hv] at hL1 hL2
        have HL := hide (hl.later bY)
        have HGY := hide (hG.later bY)
        have HPY : Hid (∀ n, PRow (wr.drew.alloc (.cells #[ptrV rb i] 265)) G (.ent n) ((mget l n).getD (.slice none 0 0)) rb (sj.of n)) := fun n => (hP n).later bY (fun k e => hG.lt e)
        have HOW := hide (hv ▸ (unhide HPY nme).1)
        have HFY := hide (hFr.trans (Fr.later bY))
        have HV := hide hv.symm
        have rX := Row.new wr.drew 265 [ptrV rb i]
        have HRX := hide rX
        have hL3 : (Instr.lookup 139 (.map (some c.bt)) (.string ⟨nme.toArray⟩) false).run Tryz.prog (wr.alloc (.cells #[.pointer (some ⟨rb i, 0, none⟩)] 265)).drew = .ok v (wr.alloc (.cells #[.pointer (some ⟨rb i, 0, none⟩)] 265)).drew := hL2
        clear hL2
        have HBY := hide (Row.later hB' bY)
        have dY := Row.cell? (i := 3) (unhide HBY) rfl
        clear hl hP hG hFr bY hv rX hB'
        go_wp2_with fail
        go_region_held_law (fun w' => w'.cell? ⟨c.bb, 3, none⟩ = some (.map (some c.bt))) (first | exact d3 | exact dY | exact d6 | exact d7) (first
          | (refine step_append_fresh rfl (.tmp 39) (.tmp 41) 138 rfl 0 265 i0 _ 1 8 Tryz.underlying138 hi0 hz0 hz1 hz2 rfl (by decide) v (sj.of nme).length _ (by rfl) (unhide HOW) ⟨wr.heap.size, 0, none⟩ 1 1 [ptrV rb i] (by rfl) (by rfl) (fun j u hj => by rw [addr_add0]; exact (unhide HRX).cell? hj) (ptr_ones rb i) (by unfold maxLen; omega) (by omega) (Nat.zero_le _) ?_; intro v6 w6 hown6 hgrow6 hf6; obtain ⟨w7, hrun7, hR7⟩ := entGrow (unhide HGY) hij (unhide HL) hll (unhide HPY) (unhide HV) (by omega) hown6 hgrow6 hf6; have d6 := Row.cell? (i := 3) (Row.grown (unhide HBY) hgrow6 (row_ne_own (unhide HBY) (unhide HOW) (by decide))) rfl; obtain ⟨G7, m7, f7⟩ := hR7; obtain ⟨vp7, hB7, -⟩ := m7.book; have d7 := Row.cell? (i := 3) hB7 rfl; have HM7 := hide m7; have HF7 := hide f7; clear m7 f7 hB7 hown6 hgrow6 hf6)
          | fail)
        all_goals go_wp2_with fail
        all_goals go_roundw
        all_goals first
          | exact ⟨j + 1, by go_num, by omega, ⟨G7, by rw [unhide HNX]; exact unhide HM7, (unhide HFY).trans (unhide HF7)⟩⟩
          | (simp only [intN]; omega)
      · have hje : j = r.tg.length := by omega
        subst hje
        have t1 : ¬ (r.tg.length : Int) < r.tg.length := by omega
        have hmm := (unhide HX).mem
        rw [List.take_length] at hmm
        have HM := hide hmm
        clear hmm
        go_wp2_with fail
        go_end0
        exact ⟨rfl, by rw [unhide HEX]; exact unhide HM⟩
end
end Go.Proofs.YtjelacjggijmfaaGreatDoor
