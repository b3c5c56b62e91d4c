/-
  The iterator over the instructions of a code: what it gives, round by round.
  Package plans: the height behind an instruction.
  Package plans: may the operands name what they name? the height behind an instruction.
  Package plans: the walk's own calls.
-/
import Derived.Test.YtjelacjggijmfaaGreatDoorVSB
import Derived.Maps.OwnSet
import Derived.Maps.OwnOps
import Derived.Maps.Range
import Derived.RangeFuncCalls
import Derived.Shelf.Abstract
import Derived.Shelf.RegionOpen
import Derived.OwnWalkIn
import Derived.TacticsInMore
import Derived.LoopNIn
import Derived.LoopIn
namespace Go.Proofs.YtjelacjggijmfaaGreatDoor
open Go.RowKit Go.Maps

theorem grown_undrew {w w' : World} {r : Option Nat} (h : w.drew.grownBy w' r) : w.grownBy w' r := ⟨h.os, h.tape, h.output, h.size, h.block⟩
theorem lawI : Keyed Tryz.prog 3 := int_keyed Tryz.underlying3
theorem zeroI (w : World) : (zeroValue 3).run Tryz.prog w = .ok (.int .i64 0) w := by kernel_rfl
def kI (n : Nat) : Lit := .int .i64 n
theorem keyI (n : Nat) (hn : n ≤ 9223372036854775807) : keyOf Tryz.prog 3 (.int .i64 n) = some (kI n) := keyOf_int_mk Tryz.underlying3 (WalkArith.wf_i64 (by omega))
abbrev Mw (w : World) (b n : Nat) (D : DataW Unit) : Prop := w.ownsMap Tryz.prog 3 (plainElem Tryz.prog 3) b n D
/-- what a map holds, as what is awaited -/
structure Holds (D : DataW Unit) (A : Pl.Aw) : Prop where
  at_ : ∀ p, (A p = none → has D (kI p) = false) ∧ (∀ h, A p = some h → has D (kI p) = true ∧ ∀ z, D.atKey (kI p) z = .lit (.int .i64 h))
  only : ∀ k, has D k = true → ∃ p, k = kI p
theorem agrees_of {D : DataW Unit} {A : Pl.Aw} (hA : Holds D A) {p h : Nat} {c : Int} (hc : D.atKey (kI p) (.lit (.int .i64 0)) = .lit (.int .i64 c)) :
    ((!has D (kI p)) || (c == (h : Int))) = true ↔ Pl.agrees A p h := by
  unfold Pl.agrees
  cases e : A p with
  | none => rw [(hA.at_ p).1 e]; simp
  | some q =>
    obtain ⟨h1, h2⟩ := (hA.at_ p).2 q e
    rw [h2] at hc
    have hcq : (q : Int) = c := by simpa using hc
    rw [h1, ← hcq]
    simp only [Bool.not_true, Bool.false_or, beq_iff_eq, Option.some.injEq]
    constructor
    · rintro h3 q' rfl; omega
    · intro h3; have := h3 q rfl; omega
set_option maxHeartbeats 1000000 in
set_option maxRecDepth 20000 in
theorem arrive_any (b bm n m h p : Nat) (D : DataW Unit) (A : Pl.Aw) (w : World) (hr : Row w b 249 [.int .i64 m, .int .i64 h, .map (some bm)]) (hown : Mw w bm n D) (hA : Holds D A) (hp : p ≤ 16777216) (hne : b ≠ bm) :
    Calls Tryz.prog 130 #[.pointer (some ⟨b, 0, none⟩), .int .i64 p] w fun e w' => (∃ r : Bool, e = .returned (.bool r) ∧ (r = true ↔ Pl.agrees A p h)) ∧ Mw w' bm n (D.del (kI p)) ∧ w.grownBy w' (some bm) := by
  have c0 := hr.cell 0 (by simp)
  have c1 := hr.cell 1 (by simp)
  have c2 := hr.cell 2 (by simp)
  simp only [List.getElem_cons_zero, List.getElem_cons_succ] at c0 c1 c2
  have HR := hide hr
  have HA := hide hA
  have hk := hide (keyI p (by omega))
  have HO := hide hown
  clear hr hA hown
  go_enter Tryz.func130, Tryz.ntmps130
  go_wp2_with (first
    | (at_lookup; refine wpList_lookup_own_ok_int _ rfl _ _ 247 rfl 3 3 .i64 lawI Tryz.underlying247 Tryz.underlying3 (zeroI _) bm n _ rfl (unhide HO) _ _ rfl (unhide hk) ?_; intro c hat hwc)
    | (at_delete; refine wpList_delete_own _ rfl _ _ 247 3 rfl 3 lawI Tryz.underlying247 _ bm n D rfl (unhide HO) _ _ rfl (unhide hk) ?_; intro w1 hown1 hturn1; have hr1 := (unhide HR).grown hturn1.grown (fun e => hne (Option.some.inj e)); have d1 := hr1.cell 1 (by simp); simp only [List.getElem_cons_zero, List.getElem_cons_succ] at d1)
    | go_in)
  all_goals go_ret
  · have hh : has D (kI p) = true := by assumption
    refine ⟨⟨_, rfl, ?_⟩, hown1, hturn1.grown⟩
    rw [← agrees_of (unhide HA) hat, hh]; simp
  · have hh : has D (kI p) = false := by rename_i hx; simpa using hx
    refine ⟨⟨_, rfl, ?_⟩, hown1, hturn1.grown⟩
    rw [← agrees_of (unhide HA) hat, hh]; simp
theorem Holds.del {D : DataW Unit} {A : Pl.Aw} (hA : Holds D A) (p : Nat) : Holds (D.del (kI p)) (Pl.del A p) := by
  refine ⟨fun q => ?_, fun k hk => ?_⟩
  case refine_2 =>
    by_cases h : k = kI p
    · exact ⟨p, h⟩
    · rw [has_del_other h] at hk; exact hA.only k hk
  unfold Pl.del
  by_cases h : q = p
  · subst h
    rw [if_pos rfl]
    exact ⟨fun _ => has_del_same, fun _ e => by cases e⟩
  · rw [if_neg h]
    have hne : kI q ≠ kI p := by intro e; apply h; have := e; simp only [kI, Lit.int.injEq, true_and] at this; omega
    refine ⟨fun e => (has_del_other hne).trans ((hA.at_ q).1 e), fun x e => ?_⟩
    obtain ⟨h1, h2⟩ := (hA.at_ q).2 x e
    exact ⟨(has_del_other hne).trans h1, fun z => (atKey_del_other hne z).trans (h2 z)⟩
theorem Holds.put {D : DataW Unit} {A : Pl.Aw} (hA : Holds D A) (hD : IsMap D) (p h : Nat) : Holds (D.put (kI p) (.lit (.int .i64 h))) (Pl.put A p h) := by
  have hk : WideAt.IsKeyLit (kI p) := trivial
  refine ⟨fun q => ?_, fun k hk' => ?_⟩
  case refine_2 =>
    by_cases h : k = kI p
    · exact ⟨p, h⟩
    · rw [has_put_other h] at hk'; exact hA.only k hk'
  unfold Pl.put
  by_cases hq : q = p
  · subst hq
    rw [if_pos rfl]
    refine ⟨fun e => (by cases e), fun x e => ?_⟩
    cases e
    exact ⟨has_put_same hD hk _, fun z => atKey_put_same hD hk _ z⟩
  · rw [if_neg hq]
    have hne : kI q ≠ kI p := by intro e; apply hq; have := e; simp only [kI, Lit.int.injEq, true_and] at this; omega
    refine ⟨fun e => (has_put_other hne _).trans ((hA.at_ q).1 e), fun x e => ?_⟩
    obtain ⟨h1, h2⟩ := (hA.at_ q).2 x e
    exact ⟨(has_put_other hne _).trans h1, fun z => (atKey_put_other hne _ z).trans (h2 z)⟩
theorem Holds.start : Holds (.map []) (fun _ => none) := ⟨fun _ => ⟨fun _ => rfl, fun _ e => by cases e⟩, fun _ e => by cases e⟩
theorem Holds.empty {w : World} {b n : Nat} {D : DataW Unit} {A : Pl.Aw} (hA : Holds D A) (hown : Mw w b n D) : Maps.size D = 0 ↔ ∀ q, A q = none := by
  obtain ⟨es, rfl, hp, hk⟩ := hown.entries lawI
  constructor
  · intro h q
    have : es = [] := List.length_eq_zero_iff.1 h
    subst this
    cases e : A q with
    | none => rfl
    | some x => have := ((hA.at_ q).2 x e).1; cases this
  · intro h
    cases es with
    | nil => rfl
    | cons x r =>
      have h0 : has (.map (x :: r)) x.1 = true := List.any_eq_true.2 ⟨x, by simp, WideAt.sameKey_self (hk x (by simp))⟩
      obtain ⟨p, hp⟩ := hA.only _ h0
      have h1 := (hA.at_ p).1 (h p)
      rw [← hp, h0] at h1
      cases h1
set_option maxHeartbeats 1000000 in
set_option maxRecDepth 20000 in
theorem await_any (b bm n m h p : Nat) (D : DataW Unit) (A : Pl.Aw) (w : World) (hr : Row w b 249 [.int .i64 m, .int .i64 h, .map (some bm)]) (hown : Mw w bm n D) (hA : Holds D A) (hp : p ≤ 16777216) (hh : h ≤ 16) (hn : n ≤ 16777216) (hne : b ≠ bm) :
    Calls Tryz.prog 172 #[.pointer (some ⟨b, 0, none⟩), .int .i64 p] w fun e w' => (∃ r : Bool, e = .returned (.bool r) ∧ (r = true ↔ Pl.agrees A p h)) ∧ Mw w' bm (n + 1) (D.put (kI p) (.lit (.int .i64 h))) ∧ w.grownBy w' (some bm) := by
  have c0 := hr.cell 0 (by simp)
  have c1 := hr.cell 1 (by simp)
  have c2 := hr.cell 2 (by simp)
  simp only [List.getElem_cons_zero, List.getElem_cons_succ] at c0 c1 c2
  have HR := hide hr
  have HA := hide hA
  have hk := hide (keyI p (by omega))
  have HO := hide hown
  obtain ⟨w1, hrun, hown1, hturn1⟩ := (hown.drew).store (t := 247) (e := 3) lawI Tryz.underlying247 (by unfold maxLen; omega) (unhide hk) (plainElem_int Tryz.underlying3 (WalkArith.wf_i64 (show (-9223372036854775808 : Int) ≤ (h : Int) ∧ (h : Int) ≤ 9223372036854775807 by omega)))
  have hr1 := hr.drew.grown hturn1.grown (fun e => hne (Option.some.inj e))
  have d1 := hr1.cell 1 (by simp)
  simp only [List.getElem_cons_zero, List.getElem_cons_succ] at d1
  have HO1 := hide hown1
  have HT1 := hide hturn1
  clear hr hA hown hr1 hown1 hturn1
  go_enter Tryz.func172, Tryz.ntmps172
  go_wp2_with (first
    | (at_lookup; refine wpList_lookup_own_ok_int _ rfl _ _ 247 rfl 3 3 .i64 lawI Tryz.underlying247 Tryz.underlying3 (zeroI _) bm n _ rfl (unhide HO) _ _ rfl (unhide hk) ?_; intro c hat hwc)
    | go_in)
  go_region
  go_wp2_with fail
  all_goals go_ret
  · have hh : has D (kI p) = true := by assumption
    refine ⟨⟨_, rfl, ?_⟩, unhide HO1, grown_undrew (unhide HT1).grown⟩
    rw [← agrees_of (unhide HA) hat, hh]; simp
  · have hh : has D (kI p) = false := by rename_i hx; simpa using hx
    refine ⟨⟨_, rfl, ?_⟩, unhide HO1, grown_undrew (unhide HT1).grown⟩
    rw [← agrees_of (unhide HA) hat, hh]; simp
end Go.Proofs.YtjelacjggijmfaaGreatDoor
namespace Go.Proofs.YtjelacjggijmfaaGreatDoor
open Go.RowKit Go.Maps

set_option maxHeartbeats 1000000 in
set_option maxRecDepth 20000 in
theorem mayName_any (b bm m h : Nat) (i : Pl.Ins) (w : World) (hr : Row w b 249 [.int .i64 m, .int .i64 h, .map (some bm)]) (h1 : 1 ≤ i.op) (h8 : i.op ≤ 8) :
    Calls Tryz.prog 131 #[.pointer (some ⟨b, 0, none⟩), insV i] w fun e w' => (∃ r : Bool, e = .returned (.bool r) ∧ (r = true ↔ Pl.okOps m i)) ∧ Below w.heap.size w w' := by
  obtain ⟨op, p, nx, F, G⟩ := i
  simp only at h1 h8
  unfold insV
  simp only
  have hr1 := fun o => hr.alloc o
  have c0 : ∀ o, (w.alloc o).cell? ⟨b, 0, none⟩ = some (.int .i64 m) := fun o => by
    have := (hr1 o).cell 0 (by simp)
    simpa using this
  have HR := hide hr
  clear hr hr1
  have : op = 1 ∨ (op = 2 ∨ op = 7) ∨ op = 3 ∨ (op = 4 ∨ op = 5 ∨ op = 6 ∨ op = 8) := by omega
  rcases this with rfl | h27 | rfl | h4
  · go_enter Tryz.func131, Tryz.ntmps131
    go_wp2_with fail
    all_goals go_ret
    all_goals refine ⟨⟨_, rfl, ?_⟩, (Below.refl _ w).alloc (Nat.le_refl _) _⟩
    all_goals (unfold Pl.okOps; simp; omega)
  · rcases h27 with rfl | rfl
    all_goals go_enter Tryz.func131, Tryz.ntmps131
    all_goals go_wp2_with fail
    all_goals go_region
    all_goals go_wp2_with fail
    all_goals go_ret
    all_goals refine ⟨⟨_, rfl, ?_⟩, ((Below.refl _ w).alloc (Nat.le_refl _) _).drew⟩
    all_goals (unfold Pl.okOps; simp)
  · by_cases hF : F < m
    · have d1 : decide ((F : Int) < m) = true := by rw [decide_eq_true_eq]; omega
      go_enter Tryz.func131, Tryz.ntmps131
      go_wp2_with fail
      go_region
      all_goals go_wp2_with fail
      all_goals go_ret
      all_goals refine ⟨⟨_, rfl, ?_⟩, ((Below.refl _ w).alloc (Nat.le_refl _) _).drew⟩
      all_goals (unfold Pl.okOps; simp [hF])
    · have d1 : decide ((F : Int) < m) = false := by rw [decide_eq_false_iff_not]; omega
      go_enter Tryz.func131, Tryz.ntmps131
      go_wp2_with fail
      go_region
      all_goals go_wp2_with fail
      all_goals go_ret
      all_goals refine ⟨⟨_, rfl, ?_⟩, ((Below.refl _ w).alloc (Nat.le_refl _) _).drew⟩
      all_goals (unfold Pl.okOps; simp [hF])
  · rcases h4 with rfl | rfl | rfl | rfl
    all_goals go_enter Tryz.func131, Tryz.ntmps131
    all_goals go_wp2_with fail
    all_goals go_ret
    all_goals refine ⟨⟨_, rfl, ?_⟩, (Below.refl _ w).alloc (Nat.le_refl _) _⟩
    all_goals (unfold Pl.okOps; simp)
end Go.Proofs.YtjelacjggijmfaaGreatDoor
namespace Go.Proofs.YtjelacjggijmfaaGreatDoor
open Go.RowKit Go.Maps

/-- Nothing but the walk's own height and its map has turned. -/
abbrev Stepped (b bm : Nat) : World → World → Prop := Turned (fun k => k = b ∨ k = bm)
set_option maxHeartbeats 1000000 in
set_option maxRecDepth 20000 in
theorem step_low (b bm m h : Nat) (i : Pl.Ins) (w : World) (hr : Row w b 249 [.int .i64 m, .int .i64 h, .map (some bm)]) (h1 : 1 ≤ i.op) (h8 : i.op ≤ 8) (hlow : h < Pl.taken i.op) :
    Calls Tryz.prog 132 #[.pointer (some ⟨b, 0, none⟩), insV i] w fun e w' => e = .returned (.bool false) ∧ Below w.heap.size w w' := by
  obtain ⟨op, p, nx, F, G⟩ := i
  simp only at h1 h8 hlow
  unfold insV
  simp only
  have c1 : ∀ o, (w.alloc o).cell? ⟨b, 1, none⟩ = some (.int .i64 h) := fun o => by
    have := (hr.alloc o).cell 1 (by simp)
    simpa using this
  have HR := hide hr
  have CU := hide (fun w => uses_any op h1 h8 w)
  clear hr
  generalize Pl.taken op = tk at *
  generalize Pl.pushed op = pu at *
  have hlow' : (h : Int) < tk := by omega
  go_enter Tryz.func132, Tryz.ntmps132
  go_wp2_with fail
  refine (unhide CU _).mono ?_
  rintro e w1 ⟨rfl, rfl⟩
  go_wp2_with fail
  all_goals go_ret
  all_goals exact ⟨rfl, (Below.refl _ w).alloc (Nat.le_refl _) _⟩
/-- What a step has done. -/
structure StepPost (b bm n m h : Nat) (i : Pl.Ins) (A : Pl.Aw) (w : World) (r : Bool) (w' : World) : Prop where
  ok : r = true ↔ Pl.rise i.op h ≤ 16 ∧ (i.op = 6 → Pl.agrees A (i.next + i.first) (Pl.rise i.op h))
  on : r = true → Row w' b 249 [.int .i64 m, .int .i64 (Pl.rise i.op h), .map (some bm)] ∧ ∃ D', Mw w' bm (n + 1) D' ∧ Holds D' (if i.op = 6 then Pl.put A (i.next + i.first) (Pl.rise i.op h) else A)
  kept : Stepped b bm w w'
set_option maxHeartbeats 1000000 in
set_option maxRecDepth 20000 in
theorem step_on (b bm n m h : Nat) (i : Pl.Ins) (D : DataW Unit) (A : Pl.Aw) (w : World) (hr : Row w b 249 [.int .i64 m, .int .i64 h, .map (some bm)]) (h1 : 1 ≤ i.op) (h8 : i.op ≤ 8) (hh : h ≤ 16) (htk : Pl.taken i.op ≤ h)
    (hnx : i.next ≤ 8388608) (hF : i.first ≤ 65535) (hown : Mw w bm n D) (hA : Holds D A) (hn : n ≤ 16777216) (hne : b ≠ bm) :
    Calls Tryz.prog 132 #[.pointer (some ⟨b, 0, none⟩), insV i] w fun e w' => ∃ r : Bool, e = .returned (.bool r) ∧ StepPost b bm n m h i A w r w' := by
  have CU := hide (fun w => uses_any i.op h1 h8 w)
  have hpu : Pl.pushed i.op ≤ 1 := by unfold Pl.pushed; split <;> omega
  have hri : Pl.rise i.op h = h - Pl.taken i.op + Pl.pushed i.op := rfl
  have hrb := hr.lt
  have hbm := hown.lt
  have c1 : w.cell? ⟨b, 1, none⟩ = some (.int .i64 h) := by
    have := hr.cell 1 (by simp)
    simpa using this
  have f1 : w.frozen? ⟨b, 1, none⟩ = false := hr.frozen 1
  have d1 : ∀ v, (w.setCell ⟨b, 1, none⟩ v).cell? ⟨b, 1, none⟩ = some v := fun v => by
    have := (hr.set 1 v).cell 1 (by simp)
    simpa using this
  obtain ⟨X, hX⟩ : ∃ X, X = Obj.cells #[.int .u8 i.op, .int .i64 i.at_, .int .i64 i.next, .int .i64 i.first, .int .i64 i.second] 254 := ⟨_, rfl⟩
  have hr2 : Row ((w.setCell ⟨b, 1, none⟩ (.int .i64 (Pl.rise i.op h))).alloc X) b 249 [.int .i64 m, .int .i64 (Pl.rise i.op h), .map (some bm)] := (hr.set 1 _).alloc X
  have hs2 : Stepped b bm w ((w.setCell ⟨b, 1, none⟩ (.int .i64 (Pl.rise i.op h))).alloc X) := ((Turned.refl _ w).set (.inl rfl) 1 _).alloc X
  have hm2 : Mw ((w.setCell ⟨b, 1, none⟩ (.int .i64 (Pl.rise i.op h))).alloc X) bm n D := (hown.setCell (a := ⟨b, 1, none⟩) (fun e => hne e.symm) _).alloc X
  have htk' : ¬ (h : Int) < (Pl.taken i.op : Int) := by omega
  have hh' : (h : Int) + ((Pl.pushed i.op : Int) - (Pl.taken i.op : Int)) = (Pl.rise i.op h : Int) := by omega
  have HH := hide hh'
  by_cases h16 : Pl.rise i.op h ≤ 16
  · have g16 : ¬ (16 : Int) < (h : Int) + ((Pl.pushed i.op : Int) - (Pl.taken i.op : Int)) := by omega
    by_cases h6 : i.op = 6
    · obtain ⟨q, hq⟩ : ∃ q, q = i.next + i.first := ⟨_, rfl⟩
      have CA := hide (await_any b bm n m (Pl.rise i.op h) q D A _ hr2 hm2 hA (by omega) h16 hn hne)
      have HQ : Hid ((i.next : Int) + (i.first : Int) = (q : Int)) := by show _ = _; omega
      have HP : Hid (∀ r w'', (r = true ↔ Pl.agrees A q (Pl.rise i.op h)) → Mw w'' bm (n + 1) (D.put (kI q) (.lit (.int .i64 (Pl.rise i.op h)))) → ((w.setCell ⟨b, 1, none⟩ (.int .i64 (Pl.rise i.op h))).alloc X).grownBy w'' (some bm) → StepPost b bm n m h i A w r w'') := by
        intro r w'' k1 k2 k3
        refine ⟨?_, fun _ => ⟨hr2.grown k3 (fun e => hne (Option.some.inj e)), _, k2, ?_⟩, hs2.trans ((Turned.ofGrown k3).mono (fun k e => .inr (Option.some.inj e)))⟩
        · rw [k1, hq]; exact ⟨fun e => ⟨h16, fun _ => e⟩, fun e => e.2 h6⟩
        · rw [if_pos h6, ← hq]; exact hA.put hm2.isMap q _
      clear hr hown hA hri hh' hr2 hs2 hm2 hq h16
      obtain ⟨op, p, nx, F, G⟩ := i
      simp only at h6
      subst h6
      unfold insV
      simp only at *
      generalize Pl.rise 6 h = h' at *
      generalize Pl.taken 6 = tk at *
      generalize Pl.pushed 6 = pu at *
      go_enter Tryz.func132, Tryz.ntmps132
      go_wp2_with fail
      refine (unhide CU _).mono ?_
      rintro e w1 ⟨rfl, rfl⟩
      go_wp2_with fail
      rw [unhide HH, unhide HQ, ← show X = Obj.cells #[.int .u8 6, .int .i64 p, .int .i64 nx, .int .i64 F, .int .i64 G] 254 from hX]
      refine (unhide CA).mono ?_
      rintro e w2 ⟨⟨r, rfl, k1⟩, k2, k3⟩
      have K := hide (unhide HP r w2 k1 k2 k3)
      clear k1 k2 k3
      go_wp2_with fail
      all_goals go_ret
      all_goals exact ⟨_, rfl, unhide K⟩
    · have HP : Hid (StepPost b bm n m h i A w true ((w.setCell ⟨b, 1, none⟩ (.int .i64 (Pl.rise i.op h))).alloc X)) :=
        ⟨by simp [h16, h6], fun _ => ⟨hr2, D, hm2.mono (Nat.le_succ _), by rw [if_neg h6]; exact hA⟩, hs2⟩
      clear hr hown hA hri hh' hr2 hs2 hm2 h16
      obtain ⟨op, p, nx, F, G⟩ := i
      unfold insV
      simp only at *
      generalize Pl.rise op h = h' at *
      generalize Pl.taken op = tk at *
      generalize Pl.pushed op = pu at *
      have b6 : ((op : Int) != 6) = true := by rw [bne_iff_ne]; omega
      go_enter Tryz.func132, Tryz.ntmps132
      go_wp2_with fail
      refine (unhide CU _).mono ?_
      rintro e w1 ⟨rfl, rfl⟩
      go_wp2_with fail
      all_goals go_ret
      all_goals (rw [unhide HH, ← hX]; exact ⟨_, rfl, unhide HP⟩)
  · have g16 : (16 : Int) < (h : Int) + ((Pl.pushed i.op : Int) - (Pl.taken i.op : Int)) := by omega
    have HP : Hid (StepPost b bm n m h i A w false ((w.setCell ⟨b, 1, none⟩ (.int .i64 (Pl.rise i.op h))).alloc X)) :=
      ⟨by simp [h16], fun e => (by cases e), hs2⟩
    clear hr hown hA hri hh' hr2 hs2 hm2 h16
    obtain ⟨op, p, nx, F, G⟩ := i
    unfold insV
    simp only at *
    generalize Pl.rise op h = h' at *
    generalize Pl.taken op = tk at *
    generalize Pl.pushed op = pu at *
    go_enter Tryz.func132, Tryz.ntmps132
    go_wp2_with fail
    refine (unhide CU _).mono ?_
    rintro e w1 ⟨rfl, rfl⟩
    go_wp2_with fail
    all_goals go_ret
    all_goals (rw [unhide HH, ← hX]; exact ⟨_, rfl, unhide HP⟩)
end Go.Proofs.YtjelacjggijmfaaGreatDoor
namespace Go.Proofs.YtjelacjggijmfaaGreatDoor
open Go.RowKit Go.Shelf
attribute [local go_sem] Oper.semAt_some

def encI (x : Pl.Ins × Bool) : Array Value := #[insV x.1, .bool x.2]
theorem below_grown {w w' : World} (hb : Below w.heap.size w w') : w.grownBy w' none := ⟨hb.os, hb.tape, hb.output, hb.size, fun k hk _ => hb.block k hk⟩
theorem OwnDrew {β : Type} {B : Nat} {J : β → World → Prop} (h : OwnFrom B J) {s : β} {W : World} (hs : J s W) : J s W.drew :=
  h s W _ none hs ⟨rfl, rfl, rfl, Nat.le_refl _, fun _ _ _ => rfl⟩ (fun r e => by cases e)
theorem OwnBelow {β : Type} {B : Nat} {J : β → World → Prop} (h : OwnFrom B J) {s : β} {W W' : World} (hs : J s W) (hb : Below W.heap.size W W') : J s W' :=
  h s W W' none hs (below_grown hb) (fun r e => by cases e)
theorem keepsBelow (B : Nat) {W W' : World} (hb : Below W.heap.size W W') : KeepsFrom B W W' :=
  ⟨hb.size, fun k1 _ _ ho _ => (hb.block k1 (Array.getElem?_eq_some_iff.1 ho).1).trans ho⟩
/-- What a round over the instructions keeps: the box of the code, and the boxes that hold an instruction. -/
structure KpI (Bt : Nat) (_ : Nat) (W W' : World) : Prop where
  text : ∀ (c : Array Value) (f : Nat × Nat), W.heap[Bt]? = some (Obj.cells c 9 f) → W'.heap[Bt]? = some (Obj.cells c 9 f)
  ins : ∀ (k : Nat) (c : Array Value) (f : Nat × Nat), W.heap[k]? = some (Obj.cells c 254 f) → W'.heap[k]? = some (Obj.cells c 254 f)
  size : W.heap.size ≤ W'.heap.size
theorem KpI.trans {Bt l : Nat} {A B C : World} (h : KpI Bt l A B) (k : KpI Bt l B C) : KpI Bt l A C :=
  ⟨fun c f e => k.text c f (h.text c f e), fun j c f e => k.ins j c f (h.ins j c f e), Nat.le_trans h.size k.size⟩
theorem KpI.putObj (Bt : Nat) (W : World) (l : Nat) (o o' : Obj) (hl : W.heap[l]? = some o) (ho : o.isCells = false) : KpI Bt l W (W.putObj l o') := by
  refine ⟨fun c f h => ?_, fun k c f h => ?_, (grownBy_putObj' W l o').size⟩
  all_goals refine (World.putObj_heap_other ?_).trans h
  all_goals rintro rfl
  all_goals (rw [h] at hl; cases hl; cases ho)
theorem KpI.below {Bt l : Nat} {W W' : World} (hB : Bt < W.heap.size) (hb : Below W.heap.size W W') : KpI Bt l W W' :=
  ⟨fun _ _ h => (hb.block Bt hB).trans h, fun k _ _ h => (hb.block k (Array.getElem?_eq_some_iff.1 h).1).trans h, hb.size⟩
/-- What holds between two rounds: what has come, and where it stands. -/
structure InsInv (c : Pl.Bs) (pre : List (Pl.Ins × Bool)) (f p : Nat) : Prop where
  eq : Pl.ilist c (c.length + 1) 0 = pre ++ Pl.ilist c f p
  fuel : c.length < f + p
  le : p ≤ c.length
theorem InsInv.start (c : Pl.Bs) : InsInv c [] (c.length + 1) 0 := ⟨rfl, by omega, Nat.zero_le _⟩
theorem InsInv.done {c : Pl.Bs} {pre : List (Pl.Ins × Bool)} {f p : Nat} (h : InsInv c pre f p) (hp : ¬ p < c.length) : Pl.ilist c (c.length + 1) 0 = pre := by
  rw [h.eq]
  cases f with
  | zero => simp [Pl.ilist]
  | succ f => rw [Pl.ilist, if_neg hp]; simp
theorem InsInv.step {c : Pl.Bs} {pre : List (Pl.Ins × Bool)} {f p : Nat} (h : InsInv c pre f p) (hp : p < c.length) (hw : Pl.whole c p) :
    ∃ g, Pl.ilist c (c.length + 1) 0 = pre ++ (Pl.mkIns c p, true) :: Pl.ilist c g (Pl.mkIns c p).next ∧ InsInv c (pre ++ [(Pl.mkIns c p, true)]) g (Pl.mkIns c p).next := by
  have hf := h.fuel
  obtain ⟨g, rfl⟩ : ∃ g, f = g + 1 := ⟨f - 1, by omega⟩
  have e := h.eq
  rw [show Pl.ilist c (g + 1) p = (Pl.mkIns c p, true) :: Pl.ilist c g (Pl.mkIns c p).next from (by rw [Pl.ilist, if_pos hp]; exact if_pos hw)] at e
  have := Pl.next_gt hw
  exact ⟨g, e, by rw [e]; simp, by omega, Pl.next_le hw⟩
theorem InsInv.bad {c : Pl.Bs} {pre : List (Pl.Ins × Bool)} {f p : Nat} (h : InsInv c pre f p) (hp : p < c.length) (hw : ¬ Pl.whole c p) :
    Pl.ilist c (c.length + 1) 0 = pre ++ [(⟨0, 0, 0, 0, 0⟩, false)] := by
  have hf := h.fuel
  obtain ⟨g, rfl⟩ : ∃ g, f = g + 1 := ⟨f - 1, by omega⟩
  have e := h.eq
  rwa [show Pl.ilist c (g + 1) p = [(⟨0, 0, 0, 0, 0⟩, false)] from (by rw [Pl.ilist, if_pos hp]; exact if_neg hw)] at e
def intN : Value → Nat
  | .int _ n => n.toNat
  | _ => 0
set_option maxHeartbeats 400000 in
theorem instructions_any (s : ByteArray) (w : World) :
    Calls Tryz.prog 129 #[.string s] w fun e w' => e = .returned (.func (.func 169) #[] #[.pointer (some ⟨w.heap.size, 0, none⟩)]) ∧ w.alloc (.cells #[.string s] 9) = w' := by
  go_enter Tryz.func129, Tryz.ntmps129
  go_wp2
  go_ret
  exact ⟨rfl, rfl⟩
set_option maxHeartbeats 1000000 in
theorem ins_iter (s : ByteArray) (Bt : Nat) (w : World) (hs : s.size ≤ 8388608) (hBt : w.heap[Bt]? = some (.cells #[.string s] 9 (0, 0))) :
    Mk.Iter Tryz.prog 169 #[.pointer (some ⟨Bt, 0, none⟩)] encI (KpI Bt) (Pl.ilist s.data.toList (s.data.toList.length + 1) 0) w := by
  intro l J Jx W hlW hW hJ hJx hY h0
  have hBl : Bt < w.heap.size := (Array.getElem?_eq_some_iff.1 hBt).1
  have hB2 : W.heap[Bt]? = some (.cells #[.string s] 9 (0, 0)) := (hW.block Bt hBl).trans hBt
  refine callsIn_of_wp Tryz.func169 rfl trivial ?_
  simp only [Tryz.ntmps169, List.size_toArray, List.length_cons, List.length_nil, Nat.reduceAdd, Nat.reduceSub, Array.replicate_succ, Array.replicate_zero, List.push_toArray, List.append_toArray, List.nil_append, List.cons_append]
  gi_wp2
  gi_loopw [3] (fun at_ wr => ∃ (pre : List (Pl.Ins × Bool)) (f p : Nat), at_ = .int .i64 p ∧ Hid (InsInv s.data.toList pre f p) ∧ Hid (J pre wr) ∧ Hid (wr.heap[Bt]? = some (.cells #[.string s] 9 (0, 0)))) (fun at_ _ => s.size - intN at_)
  case atStart =>
    exact ⟨[], _, 0, rfl, InsInv.start _, h0, hB2⟩
  case round =>
    obtain ⟨pre, f, p, rfl, hI, hJs, hBr⟩ := hrel
    have hsz := Lib.size_eq s
    have hpl := (unhide hI).le
    rw [← hsz] at hpl
    have hcell : wr.cell? ⟨Bt, 0, none⟩ = some (.string s) := by have := unhide hBr; simp [World.cell?, this]
    have hBw : Bt < wr.heap.size := (Array.getElem?_eq_some_iff.1 (unhide hBr)).1
    by_cases hp : p < s.size
    · have hp' : p < s.data.toList.length := by omega
      by_cases hw : Pl.whole s.data.toList p
      · obtain ⟨g, hLeq, hI2⟩ := (unhide hI).step hp' hw
        have HC := hide (insAt_yes s p wr hp hs hw)
        have hnx := Pl.next_le hw
        rw [← hsz] at hnx
        have hgt := Pl.next_gt hw
        generalize Pl.mkIns s.data.toList p = i at *
        have HI2 := hide hI2
        have HL := hide hLeq
        clear hI2 hLeq hsz hp' hw hI
        gi_wp2_with fail
        refine ⟨trivial, (callsIn_wide.2 (unhide HC)).mono ?_⟩
        rintro e w2 ⟨rfl, hb2⟩
        obtain ⟨op, at1, nx, F, G⟩ := i
        simp only at hnx hgt
        have hJ2 := OwnBelow hJ (unhide hJs) (hb2.alloc hb2.size (.cells #[.int .u8 op, .int .i64 at1, .int .i64 nx, .int .i64 F, .int .i64 G] 254))
        obtain ⟨fn, tmps, assign, body, hy, hR⟩ := hY pre _ _ _ (unhide HL) hJ2
        have HR := hide hR
        have hB3 : (w2.alloc (.cells #[.int .u8 op, .int .i64 at1, .int .i64 nx, .int .i64 F, .int .i64 G] 254)).heap[Bt]? = some (.cells #[.string s] 9 (0, 0)) := ((hb2.alloc hb2.size _).block Bt hBw).trans (unhide hBr)
        have HB3 := hide hB3
        have hbx : (w2.alloc (.cells #[.int .u8 op, .int .i64 at1, .int .i64 nx, .int .i64 F, .int .i64 G] 254)).heap[w2.heap.size]? = some (.cells #[.int .u8 op, .int .i64 at1, .int .i64 nx, .int .i64 F, .int .i64 G] 254 (0, 0)) := World.alloc_heap_new w2 _
        have HBX := hide hbx
        have HX : Hid (∀ W', Jx (pre ++ [((⟨op, at1, nx, F, G⟩ : Pl.Ins), true)]) W' → ∃ pre post, Pl.ilist s.data.toList (s.data.toList.length + 1) 0 = pre ++ post ∧ Jx pre W') := fun W' hx => ⟨_, _, by rw [unhide HL, List.append_cons], hx⟩
        clear hR hJ2 hJs hB3 hbx hb2 HL HC
        unfold insV
        unfold encI insV at hy
        simp only at hy ⊢
        gi_wp2_with fail
        refine (Mk.roundIn_any (unhide HR)).mono ?_
        rintro e W3 (⟨rfl, hJ3, hk3⟩ | ⟨rfl, hJx3, -⟩)
        · have HJ3 := hide hJ3
          have hbx3 := hk3.ins _ _ _ (unhide HBX)
          have hn3 : W3.cell? ⟨w2.heap.size, 2, none⟩ = some (.int .i64 nx) := by simp [World.cell?, hbx3]
          have HB4 := hide (hk3.text _ _ (unhide HB3))
          clear hJ3 hk3 hbx3 HR hy HB3 HBX
          gi_wp2_with fail
          go_roundw
          case rel => exact ⟨_, g, nx, rfl, HI2, HJ3, HB4⟩
          case measure => simp only [intN]; omega
        · clear hy
          gi_wp2_with fail
          refine bodyPost_ret (results_none rfl _ _ _) rfl ?_
          exact ⟨⟨_, rfl⟩, .inr (unhide HX _ hJx3)⟩
      · have HL := hide ((unhide hI).bad hp' hw)
        have HC := hide (insAt_no s p wr hp hs hw)
        clear hsz hp' hw hI
        gi_wp2_with fail
        refine ⟨trivial, (callsIn_wide.2 (unhide HC)).mono ?_⟩
        rintro e w2 ⟨rfl, hb2⟩
        have hJ2 := OwnBelow hJ (unhide hJs) (hb2.alloc hb2.size (.cells #[.int .u8 0, .int .i64 0, .int .i64 0, .int .i64 0, .int .i64 0] 254))
        obtain ⟨fn, tmps, assign, body, hy, hR⟩ := hY pre _ [] _ (unhide HL) hJ2
        have HR := hide hR
        clear hR hJ2 hJs hb2 HC
        unfold insV
        unfold encI insV at hy
        have z0 : ((0 : Nat) : Int) = 0 := rfl
        simp only [z0] at hy ⊢
        clear z0
        gi_wp2_with fail
        refine (Mk.roundIn_any (unhide HR)).mono ?_
        rintro e W3 (⟨rfl, hJ3, -⟩ | ⟨rfl, hJx3, -⟩)
        · clear hy
          gi_wp2_with fail
          refine bodyPost_ret (results_none rfl _ _ _) rfl ?_
          exact ⟨⟨_, rfl⟩, .inl (by rw [unhide HL]; exact hJ3)⟩
        · clear hy
          gi_wp2_with fail
          refine bodyPost_ret (results_none rfl _ _ _) rfl ?_
          exact ⟨⟨_, rfl⟩, .inr ⟨_, [], by rw [unhide HL, List.append_nil], hJx3⟩⟩
    · have HD := hide ((unhide hI).done (by omega))
      clear hsz
      gi_wp2
      go_end0
      exact ⟨⟨_, rfl⟩, .inl (by rw [unhide HD]; exact unhide hJs)⟩
end Go.Proofs.YtjelacjggijmfaaGreatDoor
