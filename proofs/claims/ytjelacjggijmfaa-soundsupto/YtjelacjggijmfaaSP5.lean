/-
  Package plans: the walk's own calls.
-/
import Derived.Test.YtjelacjggijmfaaSP4
import Derived.Maps.OwnSet
import Derived.Maps.OwnOps
import Derived.Maps.Range
namespace Go.Proofs.Ytjelacjggijmfaa
open Go.RowKit Go.Maps

theorem grown_undrew {w w' : World} {r : Option Nat} (h : w.drew.grownBy w' r) : w.grownBy w' r := ⟨h.os, h.tape, h.output, h.size, h.block⟩
theorem lawI : Keyed Try.prog 3 := int_keyed Try.underlying3
theorem zeroI (w : World) : (zeroValue 3).run Try.prog w = .ok (.int .i64 0) w := by kernel_rfl
def kI (n : Nat) : Lit := .int .i64 n
theorem keyI (n : Nat) (hn : n ≤ 9223372036854775807) : keyOf Try.prog 3 (.int .i64 n) = some (kI n) := keyOf_int_mk Try.underlying3 (WalkArith.wf_i64 (by omega))
abbrev Mw (w : World) (b n : Nat) (D : DataW Unit) : Prop := w.ownsMap Try.prog 3 (plainElem Try.prog 3) b n D
/-- what a map holds, as what is awaited -/
structure Holds (D : DataW Unit) (A : Pl.Aw) : Prop where
  at_ : ∀ p, (A p = none → has D (kI p) = false) ∧ (∀ h, A p = some h → has D (kI p) = true ∧ ∀ z, D.atKey (kI p) z = .lit (.int .i64 h))
  only : ∀ k, has D k = true → ∃ p, k = kI p
theorem agrees_of {D : DataW Unit} {A : Pl.Aw} (hA : Holds D A) {p h : Nat} {c : Int} (hc : D.atKey (kI p) (.lit (.int .i64 0)) = .lit (.int .i64 c)) :
    ((!has D (kI p)) || (c == (h : Int))) = true ↔ Pl.agrees A p h := by
  unfold Pl.agrees
  cases e : A p with
  | none => rw [(hA.at_ p).1 e]; simp
  | some q =>
    obtain ⟨h1, h2⟩ := (hA.at_ p).2 q e
    rw [h2] at hc
    have hcq : (q : Int) = c := by simpa using hc
    rw [h1, ← hcq]
    simp only [Bool.not_true, Bool.false_or, beq_iff_eq, Option.some.injEq]
    constructor
    · rintro h3 q' rfl; omega
    · intro h3; have := h3 q rfl; omega
set_option maxHeartbeats 1000000 in
set_option maxRecDepth 20000 in
theorem arrive_any (b bm n m h p : Nat) (D : DataW Unit) (A : Pl.Aw) (w : World) (hr : Row w b 110 [.int .i64 m, .int .i64 h, .map (some bm)]) (hown : Mw w bm n D) (hA : Holds D A) (hp : p ≤ 2097152) (hne : b ≠ bm) :
    Calls Try.prog 45 #[.pointer (some ⟨b, 0, none⟩), .int .i64 p] w fun e w' => (∃ r : Bool, e = .returned (.bool r) ∧ (r = true ↔ Pl.agrees A p h)) ∧ Mw w' bm n (D.del (kI p)) ∧ w.grownBy w' (some bm) := by
  have c0 := hr.cell 0 (by simp)
  have c1 := hr.cell 1 (by simp)
  have c2 := hr.cell 2 (by simp)
  simp only [List.getElem_cons_zero, List.getElem_cons_succ] at c0 c1 c2
  have HR := hide hr
  have HA := hide hA
  have hk := hide (keyI p (by omega))
  have HO := hide hown
  clear hr hA hown
  go_enter Try.func45, Try.ntmps45
  go_wp2_with (first
    | (at_lookup; refine wpList_lookup_own_ok_int _ rfl _ _ 108 rfl 3 3 .i64 lawI Try.underlying108 Try.underlying3 (zeroI _) bm n _ rfl (unhide HO) _ _ rfl (unhide hk) ?_; intro c hat hwc)
    | (at_delete; refine wpList_delete_own _ rfl _ _ 108 3 rfl 3 lawI Try.underlying108 _ bm n D rfl (unhide HO) _ _ rfl (unhide hk) ?_; intro w1 hown1 hturn1; have hr1 := (unhide HR).grown hturn1.grown (fun e => hne (Option.some.inj e)); have d1 := hr1.cell 1 (by simp); simp only [List.getElem_cons_zero, List.getElem_cons_succ] at d1)
    | go_in)
  all_goals go_ret
  · have hh : has D (kI p) = true := by assumption
    refine ⟨⟨_, rfl, ?_⟩, hown1, hturn1.grown⟩
    rw [← agrees_of (unhide HA) hat, hh]; simp
  · have hh : has D (kI p) = false := by rename_i hx; simpa using hx
    refine ⟨⟨_, rfl, ?_⟩, hown1, hturn1.grown⟩
    rw [← agrees_of (unhide HA) hat, hh]; simp
theorem Holds.del {D : DataW Unit} {A : Pl.Aw} (hA : Holds D A) (p : Nat) : Holds (D.del (kI p)) (Pl.del A p) := by
  refine ⟨fun q => ?_, fun k hk => ?_⟩
  case refine_2 =>
    by_cases h : k = kI p
    · exact ⟨p, h⟩
    · rw [has_del_other h] at hk; exact hA.only k hk
  unfold Pl.del
  by_cases h : q = p
  · subst h
    rw [if_pos rfl]
    exact ⟨fun _ => has_del_same, fun _ e => by cases e⟩
  · rw [if_neg h]
    have hne : kI q ≠ kI p := by intro e; apply h; have := e; simp only [kI, Lit.int.injEq, true_and] at this; omega
    refine ⟨fun e => (has_del_other hne).trans ((hA.at_ q).1 e), fun x e => ?_⟩
    obtain ⟨h1, h2⟩ := (hA.at_ q).2 x e
    exact ⟨(has_del_other hne).trans h1, fun z => (atKey_del_other hne z).trans (h2 z)⟩
theorem Holds.put {D : DataW Unit} {A : Pl.Aw} (hA : Holds D A) (hD : IsMap D) (p h : Nat) : Holds (D.put (kI p) (.lit (.int .i64 h))) (Pl.put A p h) := by
  have hk : WideAt.IsKeyLit (kI p) := trivial
  refine ⟨fun q => ?_, fun k hk' => ?_⟩
  case refine_2 =>
    by_cases h : k = kI p
    · exact ⟨p, h⟩
    · rw [has_put_other h] at hk'; exact hA.only k hk'
  unfold Pl.put
  by_cases hq : q = p
  · subst hq
    rw [if_pos rfl]
    refine ⟨fun e => (by cases e), fun x e => ?_⟩
    cases e
    exact ⟨has_put_same hD hk _, fun z => atKey_put_same hD hk _ z⟩
  · rw [if_neg hq]
    have hne : kI q ≠ kI p := by intro e; apply hq; have := e; simp only [kI, Lit.int.injEq, true_and] at this; omega
    refine ⟨fun e => (has_put_other hne _).trans ((hA.at_ q).1 e), fun x e => ?_⟩
    obtain ⟨h1, h2⟩ := (hA.at_ q).2 x e
    exact ⟨(has_put_other hne _).trans h1, fun z => (atKey_put_other hne _ z).trans (h2 z)⟩
theorem Holds.start : Holds (.map []) (fun _ => none) := ⟨fun _ => ⟨fun _ => rfl, fun _ e => by cases e⟩, fun _ e => by cases e⟩
theorem Holds.empty {w : World} {b n : Nat} {D : DataW Unit} {A : Pl.Aw} (hA : Holds D A) (hown : Mw w b n D) : Maps.size D = 0 ↔ ∀ q, A q = none := by
  obtain ⟨es, rfl, hp, hk⟩ := hown.entries lawI
  constructor
  · intro h q
    have : es = [] := List.length_eq_zero_iff.1 h
    subst this
    cases e : A q with
    | none => rfl
    | some x => have := ((hA.at_ q).2 x e).1; cases this
  · intro h
    cases es with
    | nil => rfl
    | cons x r =>
      have h0 : has (.map (x :: r)) x.1 = true := List.any_eq_true.2 ⟨x, by simp, WideAt.sameKey_self (hk x (by simp))⟩
      obtain ⟨p, hp⟩ := hA.only _ h0
      have h1 := (hA.at_ p).1 (h p)
      rw [← hp, h0] at h1
      cases h1
set_option maxHeartbeats 1000000 in
set_option maxRecDepth 20000 in
theorem await_any (b bm n m h p : Nat) (D : DataW Unit) (A : Pl.Aw) (w : World) (hr : Row w b 110 [.int .i64 m, .int .i64 h, .map (some bm)]) (hown : Mw w bm n D) (hA : Holds D A) (hp : p ≤ 2097152) (hh : h ≤ 16) (hn : n ≤ 2097152) (hne : b ≠ bm) :
    Calls Try.prog 56 #[.pointer (some ⟨b, 0, none⟩), .int .i64 p] w fun e w' => (∃ r : Bool, e = .returned (.bool r) ∧ (r = true ↔ Pl.agrees A p h)) ∧ Mw w' bm (n + 1) (D.put (kI p) (.lit (.int .i64 h))) ∧ w.grownBy w' (some bm) := by
  have c0 := hr.cell 0 (by simp)
  have c1 := hr.cell 1 (by simp)
  have c2 := hr.cell 2 (by simp)
  simp only [List.getElem_cons_zero, List.getElem_cons_succ] at c0 c1 c2
  have HR := hide hr
  have HA := hide hA
  have hk := hide (keyI p (by omega))
  have HO := hide hown
  obtain ⟨w1, hrun, hown1, hturn1⟩ := (hown.drew).store (t := 108) (e := 3) lawI Try.underlying108 (by unfold maxLen; omega) (unhide hk) (plainElem_int Try.underlying3 (WalkArith.wf_i64 (show (-9223372036854775808 : Int) ≤ (h : Int) ∧ (h : Int) ≤ 9223372036854775807 by omega)))
  have hr1 := hr.drew.grown hturn1.grown (fun e => hne (Option.some.inj e))
  have d1 := hr1.cell 1 (by simp)
  simp only [List.getElem_cons_zero, List.getElem_cons_succ] at d1
  have HO1 := hide hown1
  have HT1 := hide hturn1
  clear hr hA hown hr1 hown1 hturn1
  go_enter Try.func56, Try.ntmps56
  go_wp2_with (first
    | (at_lookup; refine wpList_lookup_own_ok_int _ rfl _ _ 108 rfl 3 3 .i64 lawI Try.underlying108 Try.underlying3 (zeroI _) bm n _ rfl (unhide HO) _ _ rfl (unhide hk) ?_; intro c hat hwc)
    | go_in)
  go_region
  go_wp2_with fail
  all_goals go_ret
  · have hh : has D (kI p) = true := by assumption
    refine ⟨⟨_, rfl, ?_⟩, unhide HO1, grown_undrew (unhide HT1).grown⟩
    rw [← agrees_of (unhide HA) hat, hh]; simp
  · have hh : has D (kI p) = false := by rename_i hx; simpa using hx
    refine ⟨⟨_, rfl, ?_⟩, unhide HO1, grown_undrew (unhide HT1).grown⟩
    rw [← agrees_of (unhide HA) hat, hh]; simp
end Go.Proofs.Ytjelacjggijmfaa
