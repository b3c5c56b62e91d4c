/-
  Package plans: the height behind an instruction.
  Package plans: may the operands name what they name? the height behind an instruction.
  Package plans: the walk's own calls.
  Package plans: the instruction at a place.
-/
import Derived.Test.YtjelacjggijmfaaGreatDoorQSB
import Derived.Maps.OwnSet
import Derived.Maps.OwnOps
import Derived.Maps.Range
namespace Go.Proofs.YtjelacjggijmfaaGreatDoor
open Go.RowKit

def insV (i : Pl.Ins) : Value := .agg #[.int .u8 i.op, .int .i64 i.at_, .int .i64 i.next, .int .i64 i.first, .int .i64 i.second]
theorem wd_isz (op : Nat) : (isOp op = true → Pl.isz op = 1 + wd1 op + wd2 op) ∧ (isOp op = false → Pl.isz op = 0) := by
  by_cases h : op ≤ 8
  · have : op = 0 ∨ op = 1 ∨ op = 2 ∨ op = 3 ∨ op = 4 ∨ op = 5 ∨ op = 6 ∨ op = 7 ∨ op = 8 := by omega
    rcases this with rfl | rfl | rfl | rfl | rfl | rfl | rfl | rfl | rfl <;> decide
  · have e : isOp op = false := by unfold isOp; simp only [decide_eq_false_iff_not]; omega
    rw [e]
    refine ⟨fun h => (by cases h), fun _ => ?_⟩
    unfold Pl.isz
    repeat rw [if_neg (by omega)]
theorem wd_le (op : Nat) : wd1 op ≤ 2 ∧ wd2 op ≤ 2 := by
  unfold wd1 wd2
  constructor
  · split
    · omega
    · split <;> omega
  · split <;> omega
theorem mk_parts (c : Pl.Bs) (p : Nat) (h : isOp (Pl.opAt c p) = true) :
    Pl.mkIns c p = ⟨Pl.opAt c p, p, p + 1 + wd1 (Pl.opAt c p) + wd2 (Pl.opAt c p), if wd1 (Pl.opAt c p) = 0 then 0 else if wd1 (Pl.opAt c p) = 1 then Pl.opAt c (p + 1) else Pl.two c (p + 1),
      if wd2 (Pl.opAt c p) = 0 then 0 else if wd2 (Pl.opAt c p) = 1 then Pl.opAt c (p + 1 + wd1 (Pl.opAt c p)) else Pl.two c (p + 1 + wd1 (Pl.opAt c p))⟩ := by
  unfold Pl.mkIns
  have : Pl.opAt c p = 1 ∨ Pl.opAt c p = 2 ∨ Pl.opAt c p = 3 ∨ Pl.opAt c p = 4 ∨ Pl.opAt c p = 5 ∨ Pl.opAt c p = 6 ∨ Pl.opAt c p = 7 ∨ Pl.opAt c p = 8 := by
    unfold isOp at h; simp only [decide_eq_true_eq] at h; omega
  rcases this with h | h | h | h | h | h | h | h <;> rw [h] <;> simp [Pl.isz, wd1, wd2]
set_option maxHeartbeats 1000000 in
theorem insAt_yes (s : ByteArray) (p : Nat) (w : World) (hp : p < s.size) (hs : s.size ≤ 8388608) (hw : Pl.whole s.data.toList p) :
    Calls Tryz.prog 170 #[.string s, .int .i64 p] w fun e w' => e = .returned (.tuple #[insV (Pl.mkIns s.data.toList p), .bool true]) ∧ Below w.heap.size w w' := by
  have ho := opAt_get s p hp
  have hlt := Pl.opAt_lt s.data.toList p
  have hop : isOp (Pl.opAt s.data.toList p) = true := by
    cases h : isOp (Pl.opAt s.data.toList p) with
    | true => rfl
    | false => exact absurd ((wd_isz _).2 h) hw.1
  have hn := (wd_isz _).1 hop
  have hw2 := hw.2
  rw [hn, ← Lib.size_eq] at hw2
  obtain ⟨hl1, hl2⟩ := wd_le (Pl.opAt s.data.toList p)
  have HM := hide (mk_parts s.data.toList p hop)
  have CW := hide (fun w => widths_any (Pl.opAt s.data.toList p) hlt w)
  have HN1 := hide (numOf_cut s (p + 1) (wd1 (Pl.opAt s.data.toList p)) (by omega) hl1)
  have HN2 := hide (numOf_cut s (p + 1 + wd1 (Pl.opAt s.data.toList p)) (wd2 (Pl.opAt s.data.toList p)) (by omega) hl2)
  rw [hop] at CW
  have HO := hide ho
  clear hw hn ho hlt
  generalize Pl.opAt s.data.toList p = op at *
  generalize wd1 op = a at *
  generalize wd2 op = b at *
  obtain ⟨q, hq⟩ : ∃ q, q = p + 1 := ⟨_, rfl⟩
  obtain ⟨r, hr⟩ : ∃ r, r = p + 1 + a := ⟨_, rfl⟩
  obtain ⟨t, ht⟩ : ∃ t, t = p + 1 + a + b := ⟨_, rfl⟩
  rw [← ht, ← hr, ← hq] at HM
  rw [← hr, ← hq] at HN1
  rw [← ht, ← hr] at HN2
  have e1 : IntKind.i64.wrap ((p : Int) + 1) = (q : Int) := by simp [IntKind.wrap, IntKind.signed, IntKind.bits]; omega
  have e2 : IntKind.i64.wrap ((q : Int) + (a : Int)) = (r : Int) := by simp [IntKind.wrap, IntKind.signed, IntKind.bits]; omega
  have e3 : ((p : Int) + 1 + (a : Int) + (b : Int)) = (t : Int) := by omega
  have E1 := hide e1
  have E2 := hide e2
  have E3 := hide e3
  have i1 : q ≤ r := by omega
  have i2 : r ≤ t := by omega
  have i3 : r ≤ s.size := by omega
  have i6 : t ≤ s.size := by omega
  have i7 : r ≤ q + 2 := by omega
  have i8 : t ≤ r + 2 := by omega
  have HQ := hide hq
  clear e1 e2 e3
  go_enter Tryz.func170, Tryz.ntmps170
  go_wp2_with fail
  rw [← unhide HO]
  refine (unhide CW _).mono ?_
  rintro e w1 ⟨rfl, rfl⟩
  go_wp2_with fail
  rw [unhide E3]
  have e1 := unhide E1
  have e2 := unhide E2
  clear hq hr ht
  go_region_with (go_at_call 168; refine (number_all _ _ (by simp [ByteArray.size_extract]; omega)).mono ?_; rintro e w1 ⟨rfl, rfl⟩)
  all_goals go_wp2_with fail
  have HM2 : Hid (insV (Pl.mkIns s.data.toList p) = .agg #[.int .u8 op, .int .i64 p, .int .i64 t, .int .i64 (numOf (s.extract q r) : Nat), .int .i64 (numOf (s.extract r t) : Nat)]) := by
    show _ = _
    rw [unhide HM, unhide HN1, unhide HN2]; rfl
  clear HM HN1 HN2
  rw [unhide HM2]
  refine bodyPost_ret (v := .tuple #[.agg #[.int .u8 op, .int .i64 p, .int .i64 t, .int .i64 (numOf (s.extract q r) : Nat), .int .i64 (numOf (s.extract r t) : Nat)], .bool true]) ?_ rfl ⟨rfl, ((Below.refl _ w).alloc (Nat.le_refl _) _).drew⟩
  simp [results, Tryz.results170, go_sem]
set_option maxHeartbeats 1000000 in
theorem insAt_no (s : ByteArray) (p : Nat) (w : World) (hp : p < s.size) (hs : s.size ≤ 8388608) (hw : ¬ Pl.whole s.data.toList p) :
    Calls Tryz.prog 170 #[.string s, .int .i64 p] w fun e w' => e = .returned (.tuple #[insV ⟨0, 0, 0, 0, 0⟩, .bool false]) ∧ Below w.heap.size w w' := by
  have ho := opAt_get s p hp
  have hlt := Pl.opAt_lt s.data.toList p
  have CW := hide (fun w => widths_any (Pl.opAt s.data.toList p) hlt w)
  obtain ⟨hl1, hl2⟩ := wd_le (Pl.opAt s.data.toList p)
  have HO := hide ho
  unfold Pl.whole at hw
  rw [← Lib.size_eq] at hw
  cases hop : isOp (Pl.opAt s.data.toList p) with
  | false =>
    rw [hop] at CW
    clear hw ho hlt hop
    generalize Pl.opAt s.data.toList p = op at *
    generalize wd1 op = a at *
    generalize wd2 op = b at *
    go_enter Tryz.func170, Tryz.ntmps170
    go_wp2_with fail
    rw [← unhide HO]
    refine (unhide CW _).mono ?_
    rintro e w1 ⟨rfl, rfl⟩
    go_wp2_with fail
    refine bodyPost_ret (v := .tuple #[insV ⟨0, 0, 0, 0, 0⟩, .bool false]) ?_ rfl ⟨rfl, (Below.refl _ w).alloc (Nat.le_refl _) _⟩
    simp [results, Tryz.results170, go_sem, insV]
  | true =>
    have hn := (wd_isz _).1 hop
    rw [hop] at CW
    have hw2 : s.size < p + (1 + wd1 (Pl.opAt s.data.toList p) + wd2 (Pl.opAt s.data.toList p)) := by
      rw [hn] at hw
      omega
    clear hw ho hlt hop hn
    generalize Pl.opAt s.data.toList p = op at *
    generalize wd1 op = a at *
    generalize wd2 op = b at *
    go_enter Tryz.func170, Tryz.ntmps170
    go_wp2_with fail
    rw [← unhide HO]
    refine (unhide CW _).mono ?_
    rintro e w1 ⟨rfl, rfl⟩
    go_wp2_with fail
    refine bodyPost_ret (v := .tuple #[insV ⟨0, 0, 0, 0, 0⟩, .bool false]) ?_ rfl ⟨rfl, (Below.refl _ w).alloc (Nat.le_refl _) _⟩
    simp [results, Tryz.results170, go_sem, insV]
end Go.Proofs.YtjelacjggijmfaaGreatDoor
namespace Go.Proofs.YtjelacjggijmfaaGreatDoor
open Go.RowKit Go.Maps

theorem grown_undrew {w w' : World} {r : Option Nat} (h : w.drew.grownBy w' r) : w.grownBy w' r := ⟨h.os, h.tape, h.output, h.size, h.block⟩
theorem lawI : Keyed Tryz.prog 3 := int_keyed Tryz.underlying3
theorem zeroI (w : World) : (zeroValue 3).run Tryz.prog w = .ok (.int .i64 0) w := by kernel_rfl
def kI (n : Nat) : Lit := .int .i64 n
theorem keyI (n : Nat) (hn : n ≤ 9223372036854775807) : keyOf Tryz.prog 3 (.int .i64 n) = some (kI n) := keyOf_int_mk Tryz.underlying3 (WalkArith.wf_i64 (by omega))
abbrev Mw (w : World) (b n : Nat) (D : DataW Unit) : Prop := w.ownsMap Tryz.prog 3 (plainElem Tryz.prog 3) b n D
/-- what a map holds, as what is awaited -/
structure Holds (D : DataW Unit) (A : Pl.Aw) : Prop where
  at_ : ∀ p, (A p = none → has D (kI p) = false) ∧ (∀ h, A p = some h → has D (kI p) = true ∧ ∀ z, D.atKey (kI p) z = .lit (.int .i64 h))
  only : ∀ k, has D k = true → ∃ p, k = kI p
theorem agrees_of {D : DataW Unit} {A : Pl.Aw} (hA : Holds D A) {p h : Nat} {c : Int} (hc : D.atKey (kI p) (.lit (.int .i64 0)) = .lit (.int .i64 c)) :
    ((!has D (kI p)) || (c == (h : Int))) = true ↔ Pl.agrees A p h := by
  unfold Pl.agrees
  cases e : A p with
  | none => rw [(hA.at_ p).1 e]; simp
  | some q =>
    obtain ⟨h1, h2⟩ := (hA.at_ p).2 q e
    rw [h2] at hc
    have hcq : (q : Int) = c := by simpa using hc
    rw [h1, ← hcq]
    simp only [Bool.not_true, Bool.false_or, beq_iff_eq, Option.some.injEq]
    constructor
    · rintro h3 q' rfl; omega
    · intro h3; have := h3 q rfl; omega
set_option maxHeartbeats 1000000 in
set_option maxRecDepth 20000 in
theorem arrive_any (b bm n m h p : Nat) (D : DataW Unit) (A : Pl.Aw) (w : World) (hr : Row w b 249 [.int .i64 m, .int .i64 h, .map (some bm)]) (hown : Mw w bm n D) (hA : Holds D A) (hp : p ≤ 16777216) (hne : b ≠ bm) :
    Calls Tryz.prog 130 #[.pointer (some ⟨b, 0, none⟩), .int .i64 p] w fun e w' => (∃ r : Bool, e = .returned (.bool r) ∧ (r = true ↔ Pl.agrees A p h)) ∧ Mw w' bm n (D.del (kI p)) ∧ w.grownBy w' (some bm) := by
  have c0 := hr.cell 0 (by simp)
  have c1 := hr.cell 1 (by simp)
  have c2 := hr.cell 2 (by simp)
  simp only [List.getElem_cons_zero, List.getElem_cons_succ] at c0 c1 c2
  have HR := hide hr
  have HA := hide hA
  have hk := hide (keyI p (by omega))
  have HO := hide hown
  clear hr hA hown
  go_enter Tryz.func130, Tryz.ntmps130
  go_wp2_with (first
    | (at_lookup; refine wpList_lookup_own_ok_int _ rfl _ _ 247 rfl 3 3 .i64 lawI Tryz.underlying247 Tryz.underlying3 (zeroI _) bm n _ rfl (unhide HO) _ _ rfl (unhide hk) ?_; intro c hat hwc)
    | (at_delete; refine wpList_delete_own _ rfl _ _ 247 3 rfl 3 lawI Tryz.underlying247 _ bm n D rfl (unhide HO) _ _ rfl (unhide hk) ?_; intro w1 hown1 hturn1; have hr1 := (unhide HR).grown hturn1.grown (fun e => hne (Option.some.inj e)); have d1 := hr1.cell 1 (by simp); simp only [List.getElem_cons_zero, List.getElem_cons_succ] at d1)
    | go_in)
  all_goals go_ret
  · have hh : has D (kI p) = true := by assumption
    refine ⟨⟨_, rfl, ?_⟩, hown1, hturn1.grown⟩
    rw [← agrees_of (unhide HA) hat, hh]; simp
  · have hh : has D (kI p) = false := by rename_i hx; simpa using hx
    refine ⟨⟨_, rfl, ?_⟩, hown1, hturn1.grown⟩
    rw [← agrees_of (unhide HA) hat, hh]; simp
theorem Holds.del {D : DataW Unit} {A : Pl.Aw} (hA : Holds D A) (p : Nat) : Holds (D.del (kI p)) (Pl.del A p) := by
  refine ⟨fun q => ?_, fun k hk => ?_⟩
  case refine_2 =>
    by_cases h : k = kI p
    · exact ⟨p, h⟩
    · rw [has_del_other h] at hk; exact hA.only k hk
  unfold Pl.del
  by_cases h : q = p
  · subst h
    rw [if_pos rfl]
    exact ⟨fun _ => has_del_same, fun _ e => by cases e⟩
  · rw [if_neg h]
    have hne : kI q ≠ kI p := by intro e; apply h; have := e; simp only [kI, Lit.int.injEq, true_and] at this; omega
    refine ⟨fun e => (has_del_other hne).trans ((hA.at_ q).1 e), fun x e => ?_⟩
    obtain ⟨h1, h2⟩ := (hA.at_ q).2 x e
    exact ⟨(has_del_other hne).trans h1, fun z => (atKey_del_other hne z).trans (h2 z)⟩
theorem Holds.put {D : DataW Unit} {A : Pl.Aw} (hA : Holds D A) (hD : IsMap D) (p h : Nat) : Holds (D.put (kI p) (.lit (.int .i64 h))) (Pl.put A p h) := by
  have hk : WideAt.IsKeyLit (kI p) := trivial
  refine ⟨fun q => ?_, fun k hk' => ?_⟩
  case refine_2 =>
    by_cases h : k = kI p
    · exact ⟨p, h⟩
    · rw [has_put_other h] at hk'; exact hA.only k hk'
  unfold Pl.put
  by_cases hq : q = p
  · subst hq
    rw [if_pos rfl]
    refine ⟨fun e => (by cases e), fun x e => ?_⟩
    cases e
    exact ⟨has_put_same hD hk _, fun z => atKey_put_same hD hk _ z⟩
  · rw [if_neg hq]
    have hne : kI q ≠ kI p := by intro e; apply hq; have := e; simp only [kI, Lit.int.injEq, true_and] at this; omega
    refine ⟨fun e => (has_put_other hne _).trans ((hA.at_ q).1 e), fun x e => ?_⟩
    obtain ⟨h1, h2⟩ := (hA.at_ q).2 x e
    exact ⟨(has_put_other hne _).trans h1, fun z => (atKey_put_other hne _ z).trans (h2 z)⟩
theorem Holds.start : Holds (.map []) (fun _ => none) := ⟨fun _ => ⟨fun _ => rfl, fun _ e => by cases e⟩, fun _ e => by cases e⟩
theorem Holds.empty {w : World} {b n : Nat} {D : DataW Unit} {A : Pl.Aw} (hA : Holds D A) (hown : Mw w b n D) : Maps.size D = 0 ↔ ∀ q, A q = none := by
  obtain ⟨es, rfl, hp, hk⟩ := hown.entries lawI
  constructor
  · intro h q
    have : es = [] := List.length_eq_zero_iff.1 h
    subst this
    cases e : A q with
    | none => rfl
    | some x => have := ((hA.at_ q).2 x e).1; cases this
  · intro h
    cases es with
    | nil => rfl
    | cons x r =>
      have h0 : has (.map (x :: r)) x.1 = true := List.any_eq_true.2 ⟨x, by simp, WideAt.sameKey_self (hk x (by simp))⟩
      obtain ⟨p, hp⟩ := hA.only _ h0
      have h1 := (hA.at_ p).1 (h p)
      rw [← hp, h0] at h1
      cases h1
set_option maxHeartbeats 1000000 in
set_option maxRecDepth 20000 in
theorem await_any (b bm n m h p : Nat) (D : DataW Unit) (A : Pl.Aw) (w : World) (hr : Row w b 249 [.int .i64 m, .int .i64 h, .map (some bm)]) (hown : Mw w bm n D) (hA : Holds D A) (hp : p ≤ 16777216) (hh : h ≤ 16) (hn : n ≤ 16777216) (hne : b ≠ bm) :
    Calls Tryz.prog 172 #[.pointer (some ⟨b, 0, none⟩), .int .i64 p] w fun e w' => (∃ r : Bool, e = .returned (.bool r) ∧ (r = true ↔ Pl.agrees A p h)) ∧ Mw w' bm (n + 1) (D.put (kI p) (.lit (.int .i64 h))) ∧ w.grownBy w' (some bm) := by
  have c0 := hr.cell 0 (by simp)
  have c1 := hr.cell 1 (by simp)
  have c2 := hr.cell 2 (by simp)
  simp only [List.getElem_cons_zero, List.getElem_cons_succ] at c0 c1 c2
  have HR := hide hr
  have HA := hide hA
  have hk := hide (keyI p (by omega))
  have HO := hide hown
  obtain ⟨w1, hrun, hown1, hturn1⟩ := (hown.drew).store (t := 247) (e := 3) lawI Tryz.underlying247 (by unfold maxLen; omega) (unhide hk) (plainElem_int Tryz.underlying3 (WalkArith.wf_i64 (show (-9223372036854775808 : Int) ≤ (h : Int) ∧ (h : Int) ≤ 9223372036854775807 by omega)))
  have hr1 := hr.drew.grown hturn1.grown (fun e => hne (Option.some.inj e))
  have d1 := hr1.cell 1 (by simp)
  simp only [List.getElem_cons_zero, List.getElem_cons_succ] at d1
  have HO1 := hide hown1
  have HT1 := hide hturn1
  clear hr hA hown hr1 hown1 hturn1
  go_enter Tryz.func172, Tryz.ntmps172
  go_wp2_with (first
    | (at_lookup; refine wpList_lookup_own_ok_int _ rfl _ _ 247 rfl 3 3 .i64 lawI Tryz.underlying247 Tryz.underlying3 (zeroI _) bm n _ rfl (unhide HO) _ _ rfl (unhide hk) ?_; intro c hat hwc)
    | go_in)
  go_region
  go_wp2_with fail
  all_goals go_ret
  · have hh : has D (kI p) = true := by assumption
    refine ⟨⟨_, rfl, ?_⟩, unhide HO1, grown_undrew (unhide HT1).grown⟩
    rw [← agrees_of (unhide HA) hat, hh]; simp
  · have hh : has D (kI p) = false := by rename_i hx; simpa using hx
    refine ⟨⟨_, rfl, ?_⟩, unhide HO1, grown_undrew (unhide HT1).grown⟩
    rw [← agrees_of (unhide HA) hat, hh]; simp
end Go.Proofs.YtjelacjggijmfaaGreatDoor
namespace Go.Proofs.YtjelacjggijmfaaGreatDoor
open Go.RowKit Go.Maps

set_option maxHeartbeats 1000000 in
set_option maxRecDepth 20000 in
theorem mayName_any (b bm m h : Nat) (i : Pl.Ins) (w : World) (hr : Row w b 249 [.int .i64 m, .int .i64 h, .map (some bm)]) (h1 : 1 ≤ i.op) (h8 : i.op ≤ 8) :
    Calls Tryz.prog 131 #[.pointer (some ⟨b, 0, none⟩), insV i] w fun e w' => (∃ r : Bool, e = .returned (.bool r) ∧ (r = true ↔ Pl.okOps m i)) ∧ Below w.heap.size w w' := by
  obtain ⟨op, p, nx, F, G⟩ := i
  simp only at h1 h8
  unfold insV
  simp only
  have hr1 := fun o => hr.alloc o
  have c0 : ∀ o, (w.alloc o).cell? ⟨b, 0, none⟩ = some (.int .i64 m) := fun o => by
    have := (hr1 o).cell 0 (by simp)
    simpa using this
  have HR := hide hr
  clear hr hr1
  have : op = 1 ∨ (op = 2 ∨ op = 7) ∨ op = 3 ∨ (op = 4 ∨ op = 5 ∨ op = 6 ∨ op = 8) := by omega
  rcases this with rfl | h27 | rfl | h4
  · go_enter Tryz.func131, Tryz.ntmps131
    go_wp2_with fail
    all_goals go_ret
    all_goals refine ⟨⟨_, rfl, ?_⟩, (Below.refl _ w).alloc (Nat.le_refl _) _⟩
    all_goals (unfold Pl.okOps; simp; omega)
  · rcases h27 with rfl | rfl
    all_goals go_enter Tryz.func131, Tryz.ntmps131
    all_goals go_wp2_with fail
    all_goals go_region
    all_goals go_wp2_with fail
    all_goals go_ret
    all_goals refine ⟨⟨_, rfl, ?_⟩, ((Below.refl _ w).alloc (Nat.le_refl _) _).drew⟩
    all_goals (unfold Pl.okOps; simp)
  · by_cases hF : F < m
    · have d1 : decide ((F : Int) < m) = true := by rw [decide_eq_true_eq]; omega
      go_enter Tryz.func131, Tryz.ntmps131
      go_wp2_with fail
      go_region
      all_goals go_wp2_with fail
      all_goals go_ret
      all_goals refine ⟨⟨_, rfl, ?_⟩, ((Below.refl _ w).alloc (Nat.le_refl _) _).drew⟩
      all_goals (unfold Pl.okOps; simp [hF])
    · have d1 : decide ((F : Int) < m) = false := by rw [decide_eq_false_iff_not]; omega
      go_enter Tryz.func131, Tryz.ntmps131
      go_wp2_with fail
      go_region
      all_goals go_wp2_with fail
      all_goals go_ret
      all_goals refine ⟨⟨_, rfl, ?_⟩, ((Below.refl _ w).alloc (Nat.le_refl _) _).drew⟩
      all_goals (unfold Pl.okOps; simp [hF])
  · rcases h4 with rfl | rfl | rfl | rfl
    all_goals go_enter Tryz.func131, Tryz.ntmps131
    all_goals go_wp2_with fail
    all_goals go_ret
    all_goals refine ⟨⟨_, rfl, ?_⟩, (Below.refl _ w).alloc (Nat.le_refl _) _⟩
    all_goals (unfold Pl.okOps; simp)
end Go.Proofs.YtjelacjggijmfaaGreatDoor
namespace Go.Proofs.YtjelacjggijmfaaGreatDoor
open Go.RowKit Go.Maps

/-- Nothing but the walk's own height and its map has turned. -/
abbrev Stepped (b bm : Nat) : World → World → Prop := Turned (fun k => k = b ∨ k = bm)
set_option maxHeartbeats 1000000 in
set_option maxRecDepth 20000 in
theorem step_low (b bm m h : Nat) (i : Pl.Ins) (w : World) (hr : Row w b 249 [.int .i64 m, .int .i64 h, .map (some bm)]) (h1 : 1 ≤ i.op) (h8 : i.op ≤ 8) (hlow : h < Pl.taken i.op) :
    Calls Tryz.prog 132 #[.pointer (some ⟨b, 0, none⟩), insV i] w fun e w' => e = .returned (.bool false) ∧ Below w.heap.size w w' := by
  obtain ⟨op, p, nx, F, G⟩ := i
  simp only at h1 h8 hlow
  unfold insV
  simp only
  have c1 : ∀ o, (w.alloc o).cell? ⟨b, 1, none⟩ = some (.int .i64 h) := fun o => by
    have := (hr.alloc o).cell 1 (by simp)
    simpa using this
  have HR := hide hr
  have CU := hide (fun w => uses_any op h1 h8 w)
  clear hr
  generalize Pl.taken op = tk at *
  generalize Pl.pushed op = pu at *
  have hlow' : (h : Int) < tk := by omega
  go_enter Tryz.func132, Tryz.ntmps132
  go_wp2_with fail
  refine (unhide CU _).mono ?_
  rintro e w1 ⟨rfl, rfl⟩
  go_wp2_with fail
  all_goals go_ret
  all_goals exact ⟨rfl, (Below.refl _ w).alloc (Nat.le_refl _) _⟩
/-- What a step has done. -/
structure StepPost (b bm n m h : Nat) (i : Pl.Ins) (A : Pl.Aw) (w : World) (r : Bool) (w' : World) : Prop where
  ok : r = true ↔ Pl.rise i.op h ≤ 16 ∧ (i.op = 6 → Pl.agrees A (i.next + i.first) (Pl.rise i.op h))
  on : r = true → Row w' b 249 [.int .i64 m, .int .i64 (Pl.rise i.op h), .map (some bm)] ∧ ∃ D', Mw w' bm (n + 1) D' ∧ Holds D' (if i.op = 6 then Pl.put A (i.next + i.first) (Pl.rise i.op h) else A)
  kept : Stepped b bm w w'
set_option maxHeartbeats 1000000 in
set_option maxRecDepth 20000 in
theorem step_on (b bm n m h : Nat) (i : Pl.Ins) (D : DataW Unit) (A : Pl.Aw) (w : World) (hr : Row w b 249 [.int .i64 m, .int .i64 h, .map (some bm)]) (h1 : 1 ≤ i.op) (h8 : i.op ≤ 8) (hh : h ≤ 16) (htk : Pl.taken i.op ≤ h)
    (hnx : i.next ≤ 8388608) (hF : i.first ≤ 65535) (hown : Mw w bm n D) (hA : Holds D A) (hn : n ≤ 16777216) (hne : b ≠ bm) :
    Calls Tryz.prog 132 #[.pointer (some ⟨b, 0, none⟩), insV i] w fun e w' => ∃ r : Bool, e = .returned (.bool r) ∧ StepPost b bm n m h i A w r w' := by
  have CU := hide (fun w => uses_any i.op h1 h8 w)
  have hpu : Pl.pushed i.op ≤ 1 := by unfold Pl.pushed; split <;> omega
  have hri : Pl.rise i.op h = h - Pl.taken i.op + Pl.pushed i.op := rfl
  have hrb := hr.lt
  have hbm := hown.lt
  have c1 : w.cell? ⟨b, 1, none⟩ = some (.int .i64 h) := by
    have := hr.cell 1 (by simp)
    simpa using this
  have f1 : w.frozen? ⟨b, 1, none⟩ = false := hr.frozen 1
  have d1 : ∀ v, (w.setCell ⟨b, 1, none⟩ v).cell? ⟨b, 1, none⟩ = some v := fun v => by
    have := (hr.set 1 v).cell 1 (by simp)
    simpa using this
  obtain ⟨X, hX⟩ : ∃ X, X = Obj.cells #[.int .u8 i.op, .int .i64 i.at_, .int .i64 i.next, .int .i64 i.first, .int .i64 i.second] 254 := ⟨_, rfl⟩
  have hr2 : Row ((w.setCell ⟨b, 1, none⟩ (.int .i64 (Pl.rise i.op h))).alloc X) b 249 [.int .i64 m, .int .i64 (Pl.rise i.op h), .map (some bm)] := (hr.set 1 _).alloc X
  have hs2 : Stepped b bm w ((w.setCell ⟨b, 1, none⟩ (.int .i64 (Pl.rise i.op h))).alloc X) := ((Turned.refl _ w).set (.inl rfl) 1 _).alloc X
  have hm2 : Mw ((w.setCell ⟨b, 1, none⟩ (.int .i64 (Pl.rise i.op h))).alloc X) bm n D := (hown.setCell (a := ⟨b, 1, none⟩) (fun e => hne e.symm) _).alloc X
  have htk' : ¬ (h : Int) < (Pl.taken i.op : Int) := by omega
  have hh' : (h : Int) + ((Pl.pushed i.op : Int) - (Pl.taken i.op : Int)) = (Pl.rise i.op h : Int) := by omega
  have HH := hide hh'
  by_cases h16 : Pl.rise i.op h ≤ 16
  · have g16 : ¬ (16 : Int) < (h : Int) + ((Pl.pushed i.op : Int) - (Pl.taken i.op : Int)) := by omega
    by_cases h6 : i.op = 6
    · obtain ⟨q, hq⟩ : ∃ q, q = i.next + i.first := ⟨_, rfl⟩
      have CA := hide (await_any b bm n m (Pl.rise i.op h) q D A _ hr2 hm2 hA (by omega) h16 hn hne)
      have HQ : Hid ((i.next : Int) + (i.first : Int) = (q : Int)) := by show _ = _; omega
      have HP : Hid (∀ r w'', (r = true ↔ Pl.agrees A q (Pl.rise i.op h)) → Mw w'' bm (n + 1) (D.put (kI q) (.lit (.int .i64 (Pl.rise i.op h)))) → ((w.setCell ⟨b, 1, none⟩ (.int .i64 (Pl.rise i.op h))).alloc X).grownBy w'' (some bm) → StepPost b bm n m h i A w r w'') := by
        intro r w'' k1 k2 k3
        refine ⟨?_, fun _ => ⟨hr2.grown k3 (fun e => hne (Option.some.inj e)), _, k2, ?_⟩, hs2.trans ((Turned.ofGrown k3).mono (fun k e => .inr (Option.some.inj e)))⟩
        · rw [k1, hq]; exact ⟨fun e => ⟨h16, fun _ => e⟩, fun e => e.2 h6⟩
        · rw [if_pos h6, ← hq]; exact hA.put hm2.isMap q _
      clear hr hown hA hri hh' hr2 hs2 hm2 hq h16
      obtain ⟨op, p, nx, F, G⟩ := i
      simp only at h6
      subst h6
      unfold insV
      simp only at *
      generalize Pl.rise 6 h = h' at *
      generalize Pl.taken 6 = tk at *
      generalize Pl.pushed 6 = pu at *
      go_enter Tryz.func132, Tryz.ntmps132
      go_wp2_with fail
      refine (unhide CU _).mono ?_
      rintro e w1 ⟨rfl, rfl⟩
      go_wp2_with fail
      rw [unhide HH, unhide HQ, ← show X = Obj.cells #[.int .u8 6, .int .i64 p, .int .i64 nx, .int .i64 F, .int .i64 G] 254 from hX]
      refine (unhide CA).mono ?_
      rintro e w2 ⟨⟨r, rfl, k1⟩, k2, k3⟩
      have K := hide (unhide HP r w2 k1 k2 k3)
      clear k1 k2 k3
      go_wp2_with fail
      all_goals go_ret
      all_goals exact ⟨_, rfl, unhide K⟩
    · have HP : Hid (StepPost b bm n m h i A w true ((w.setCell ⟨b, 1, none⟩ (.int .i64 (Pl.rise i.op h))).alloc X)) :=
        ⟨by simp [h16, h6], fun _ => ⟨hr2, D, hm2.mono (Nat.le_succ _), by rw [if_neg h6]; exact hA⟩, hs2⟩
      clear hr hown hA hri hh' hr2 hs2 hm2 h16
      obtain ⟨op, p, nx, F, G⟩ := i
      unfold insV
      simp only at *
      generalize Pl.rise op h = h' at *
      generalize Pl.taken op = tk at *
      generalize Pl.pushed op = pu at *
      have b6 : ((op : Int) != 6) = true := by rw [bne_iff_ne]; omega
      go_enter Tryz.func132, Tryz.ntmps132
      go_wp2_with fail
      refine (unhide CU _).mono ?_
      rintro e w1 ⟨rfl, rfl⟩
      go_wp2_with fail
      all_goals go_ret
      all_goals (rw [unhide HH, ← hX]; exact ⟨_, rfl, unhide HP⟩)
  · have g16 : (16 : Int) < (h : Int) + ((Pl.pushed i.op : Int) - (Pl.taken i.op : Int)) := by omega
    have HP : Hid (StepPost b bm n m h i A w false ((w.setCell ⟨b, 1, none⟩ (.int .i64 (Pl.rise i.op h))).alloc X)) :=
      ⟨by simp [h16], fun e => (by cases e), hs2⟩
    clear hr hown hA hri hh' hr2 hs2 hm2 h16
    obtain ⟨op, p, nx, F, G⟩ := i
    unfold insV
    simp only at *
    generalize Pl.rise op h = h' at *
    generalize Pl.taken op = tk at *
    generalize Pl.pushed op = pu at *
    go_enter Tryz.func132, Tryz.ntmps132
    go_wp2_with fail
    refine (unhide CU _).mono ?_
    rintro e w1 ⟨rfl, rfl⟩
    go_wp2_with fail
    all_goals go_ret
    all_goals (rw [unhide HH, ← hX]; exact ⟨_, rfl, unhide HP⟩)
end Go.Proofs.YtjelacjggijmfaaGreatDoor
