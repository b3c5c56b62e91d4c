/-
  slices.Grow of nothing.
  Whether words may be a rule's targets and needs.
  slices.IndexFunc, slices.ContainsFunc over strings; whether words may be a rule's sides.
  Patterns: a name's stem; needs with the stem.
-/
import Derived.Test.YtjelacjggijmfaaGreatDoorVWS4
import Derived.Lib.AppendZerosOnto
import Derived.Lib.SliceRun
namespace Go.Proofs.YtjelacjggijmfaaGreatDoor
open Go.RowKit Go.MapKept Go.ChangeMaps Go.Maps

/-- What stands in a name where a pattern's target has its place. -/
def stemB (name target : Pl.Bs) : Pl.Bs × Bool :=
  if name.length ≤ (Mk.before 37 target).length + (Mk.after 37 target).length then ([], false)
  else (Lib.trimSuffix (Lib.trimPrefix name (Mk.before 37 target)) (Mk.after 37 target), Lib.hasPrefix name (Mk.before 37 target) && Lib.hasSuffix (Lib.trimPrefix name (Mk.before 37 target)) (Mk.after 37 target))
theorem trimPrefix_le (s p : Pl.Bs) : (Lib.trimPrefix s p).length ≤ s.length := by
  unfold Lib.trimPrefix
  split
  · rw [List.length_drop]; omega
  · exact Nat.le_refl _
set_option maxHeartbeats 1000000 in
theorem stemOf_any (name target : Pl.Bs) (w : World) (hg : Glob w) (h1 : name.length ≤ 1073741824) (h2 : target.length ≤ 1073741824) (h3 : (Mk.before 37 target).length ≤ 1073741824) (h4 : (Mk.after 37 target).length ≤ 1073741824) :
    Calls Tryz.prog 273 #[.string ⟨name.toArray⟩, .string ⟨target.toArray⟩] w fun e w' => e = .returned (.tuple #[.string ⟨(stemB name target).1.toArray⟩, .bool (stemB name target).2]) ∧ Below w.heap.size w w' := by
  have C1 : Hid (Calls Tryz.prog 160 #[.string ⟨target.toArray⟩, .string ⟨#[37]⟩] w fun e w' => e = .returned (.tuple #[.string ⟨(Mk.before 37 target).toArray⟩, .string ⟨(Mk.after 37 target).toArray⟩, .bool (Mk.has 37 target)]) ∧ Below w.heap.size w w') := lCut 37 ⟨target.toArray⟩ w (by show target.length ≤ _; omega) hg
  have HS : Hid (stemB name target = if name.length ≤ (Mk.before 37 target).length + (Mk.after 37 target).length then ([], false)
  else (Lib.trimSuffix (Lib.trimPrefix name (Mk.before 37 target)) (Mk.after 37 target), Lib.hasPrefix name (Mk.before 37 target) && Lib.hasSuffix (Lib.trimPrefix name (Mk.before 37 target)) (Mk.after 37 target))) := rfl
  generalize stemB name target = S at *
  generalize Mk.before 37 target = A at *
  generalize Mk.after 37 target = E at *
  have C2 : Hid (∀ w, Calls Tryz.prog 126 #[.string ⟨name.toArray⟩, .string ⟨A.toArray⟩] w fun e w' => e = .returned (.tuple #[.string ⟨(Lib.trimPrefix name A).toArray⟩, .bool (Lib.hasPrefix name A)]) ∧ w' = w) := fun w => Any.strings_CutPrefix Tryz.lay103 ⟨name.toArray⟩ ⟨A.toArray⟩ w
  have htp := trimPrefix_le name A
  generalize Lib.trimPrefix name A = P at *
  generalize Lib.hasPrefix name A = b1 at *
  have C3 : Hid (∀ w, Calls Tryz.prog 291 #[.string ⟨P.toArray⟩, .string ⟨E.toArray⟩] w fun e w' => e = .returned (.tuple #[.string ⟨(Lib.trimSuffix P E).toArray⟩, .bool (Lib.hasSuffix P E)]) ∧ w' = w) := fun w => Any.strings_CutSuffix Tryz.lay104 ⟨P.toArray⟩ ⟨E.toArray⟩ w (by show P.length ≤ _; omega)
  generalize Lib.trimSuffix P E = T at *
  generalize Lib.hasSuffix P E = b2 at *
  have z1 : (ByteArray.mk name.toArray).size = name.length := rfl
  have z2 : (ByteArray.mk A.toArray).size = A.length := rfl
  have z3 : (ByteArray.mk E.toArray).size = E.length := rfl
  have i1 : (name.length : Int) ≤ 1073741824 := by omega
  have i2 : (A.length : Int) ≤ 1073741824 := by omega
  have i3 : (E.length : Int) ≤ 1073741824 := by omega
  by_cases hle : name.length ≤ A.length + E.length
  · have t1 : (name.length : Int) ≤ (A.length : Int) + (E.length : Int) := by omega
    have HE : Hid (S = ([], false)) := by show S = _; rw [unhide HS, if_pos hle]
    clear HS
    go_enter Tryz.func273, Tryz.ntmps273
    go_wp2_with (first
      | (go_at_call 160; refine (unhide C1).mono ?_; rintro e w1 ⟨rfl, hb1⟩; have HB1 := hide hb1; clear hb1)
      | fail)
    go_ret2
    exact ⟨by rw [unhide HE]; rfl, unhide HB1⟩
  · have t1 : ¬ (name.length : Int) ≤ (A.length : Int) + (E.length : Int) := by omega
    have HE : Hid (S = (T, b1 && b2)) := by show S = _; rw [unhide HS, if_neg hle]
    clear HS
    cases b1 with
    | true =>
      go_enter Tryz.func273, Tryz.ntmps273
      go_wp2_with (first
        | (go_at_call 160; refine (unhide C1).mono ?_; rintro e w1 ⟨rfl, hb1⟩; have HB1 := hide hb1; clear hb1)
        | (go_at_call 126; refine (unhide C2 _).mono ?_; rintro e w2 ⟨rfl, rfl⟩)
        | (go_at_call 291; refine (unhide C3 _).mono ?_; rintro e w3 ⟨rfl, rfl⟩)
        | fail)
      go_ret2
      exact ⟨by rw [unhide HE]; rfl, unhide HB1⟩
    | false =>
      go_enter Tryz.func273, Tryz.ntmps273
      go_wp2_with (first
        | (go_at_call 160; refine (unhide C1).mono ?_; rintro e w1 ⟨rfl, hb1⟩; have HB1 := hide hb1; clear hb1)
        | (go_at_call 126; refine (unhide C2 _).mono ?_; rintro e w2 ⟨rfl, rfl⟩)
        | (go_at_call 291; refine (unhide C3 _).mono ?_; rintro e w3 ⟨rfl, rfl⟩)
        | fail)
      go_ret2
      exact ⟨by rw [unhide HE]; rfl, unhide HB1⟩
/-- The needs, each with the stem. -/
structure StI (W : World) (stem : Pl.Bs) (needs : List Pl.Bs) (i : Nat) (v : Value) (wr : World) : Prop where
  below : Below W.heap.size W wr
  own : wr.ownsRow W.heap.size 9 1 v i ((needs.take i).map fun n => strV (fillB n stem))
set_option maxHeartbeats 1000000 in
set_option maxRecDepth 100000 in
theorem withStem_any (needs : List Pl.Bs) (stem : Pl.Bs) (a : Option Addr) (cap b o : Nat) (W : World) (ha : 0 < needs.length → a = some ⟨b, o, none⟩ ∧ b < W.heap.size ∧ RdN W b o needs) (hg : Glob W) (hn : needs.length ≤ 1073741824) (hl : ∀ n ∈ needs, n.length ≤ 4294967200 ∧ n.length + Lib.countB ⟨n.toArray⟩ ⟨#[37]⟩ * stem.length ≤ 140737488355328) :
    Calls Tryz.prog 241 #[.slice a needs.length cap, .string ⟨stem.toArray⟩] W fun e W' => ∃ v, e = .returned v ∧ W'.ownsRow W.heap.size 9 1 v needs.length (needs.map fun n => strV (fillB n stem)) ∧ Below W.heap.size W W' := by
  obtain ⟨i0, hi0, hz0, hz1, hz2⟩ := info_parts Tryz.infoStr
  have HA := hide ha
  have HL := hide hl
  have HG := hide hg
  have HX0 : Hid (StI W stem needs 0 (.slice none 0 0) W) := ⟨Below.refl _ _, World.ownsRow_nil _ _ _ _⟩
  clear ha hl hg
  go_enter Tryz.func241, Tryz.ntmps241
  go_wp2_with fail
  go_loopw [5, 10] (fun v iv wr => ∃ i : Nat, iv = .int .i64 i ∧ i ≤ needs.length ∧ Hid (StI W stem needs i v wr)) (fun _ iv _ => needs.length - intN iv)
  case atStart => exact ⟨0, rfl, by omega, HX0⟩
  case round =>
    clear HX0
    obtain ⟨i, rfl, hi2, HX⟩ := hrel
    by_cases hi : i < needs.length
    · have t1 : (i : Int) < needs.length := by omega
      have t0 : (0 : Int) ≤ (i : Int) := by omega
      obtain ⟨rfl, hb, hr⟩ := unhide HA (by omega)
      have cn := hr.below (unhide HX).below hb i needs[i] (List.getElem?_eq_getElem hi)
      obtain ⟨l1, l2⟩ := unhide HL needs[i] (List.getElem_mem hi)
      have htk : (needs.take (i + 1)).map (fun n => strV (fillB n stem)) = (needs.take i).map (fun n => strV (fillB n stem)) ++ [strV (fillB needs[i] stem)] := by
        rw [List.take_succ_eq_append_getElem hi, List.map_append]
        rfl
      have HTK := hide htk
      clear hr htk
      generalize needs[i] = x at *
      have CF := hide (fill_any x stem wr ((unhide HG).later (unhide HX).below) l1 l2)
      have hws := (unhide HX).below.size
      unfold strV at *
      go_wp2_with (first
        | (go_at_call 187; refine (unhide CF).mono ?_; clear CF; rintro e w1 ⟨rfl, hb1⟩; have HB1 := hide ((unhide HX).below.trans (hb1.mono hws)); have HO1 := hide (own_same (unhide HX).own (fun q hq => hb1.block q ((unhide HX).own.lt q hq).2)); have hs1 := hb1.size; clear hb1)
        | (at_builtin; refine wpList_append_own_at _ rfl (.tmp 14) (.tmp 18) 30 rfl W.heap.size 9 i0 (.string ⟨#[]⟩) 1 16 Tryz.underlying30 hi0 hz0 hz1 hz2 rfl (by decide) _ i _ rfl (World.ownsRow.alloc (unhide HO1) _) ⟨_, 0, none⟩ 1 1 [.string ⟨(fillB x stem).toArray⟩] rfl rfl (cells_new _ _ [_]) (one_one _) (by unfold maxLen; omega) (by omega) (by rw [World.size_alloc]; omega) ?_; intro v6 w6 hown6 hgrow6 _ _; have HX6 : Hid (StI W stem needs (i + 1) v6 w6) := ⟨((unhide HB1).alloc (by omega) (.cells #[.string ⟨(fillB x stem).toArray⟩] 9)).trans ((Tn.grown (p := fun q => W.heap.size ≤ q) hgrow6 (fun q hq => ((unhide HO1).lt q hq).1)).below (by rw [World.size_alloc]; omega) (fun q hq => hq)), by have := unhide HTK; unfold strV; rw [this]; exact hown6⟩; clear hown6 hgrow6)
        | fail)
      go_roundw
      case rel => exact ⟨i + 1, by go_num, by omega, HX6⟩
      case measure => simp only [intN]; omega
    · have hie : i = needs.length := by omega
      subst hie
      have t1 : ¬ (needs.length : Int) < needs.length := by omega
      have hob := (unhide HX).own
      rw [List.take_length] at hob
      have HO := hide hob
      clear hob
      go_wp2_with fail
      go_ret
      exact ⟨_, rfl, unhide HO, (unhide HX).below⟩
end Go.Proofs.YtjelacjggijmfaaGreatDoor
namespace Go.Proofs.YtjelacjggijmfaaGreatDoor
open Go.RowKit Go.MapKept Go.ChangeMaps Go.Maps

def idxV (r : Option Nat) : Value := match r with
  | some i => .int .i64 (i : Int)
  | none => .int .i64 (-1)
structure IxI (W : World) (f : Pl.Bs → Bool) (xs : List Pl.Bs) (i : Nat) (wr : World) : Prop where
  below : Below W.heap.size W wr
  no : ∀ x ∈ xs.take i, f x = false
set_option maxHeartbeats 1000000 in
set_option maxRecDepth 100000 in
theorem indexFunc_any (xs : List Pl.Bs) (a : Option Addr) (cap b o g : Nat) (caps : Array Value) (f : Pl.Bs → Bool) (W : World) (hent : ∀ args w, (callFunc g args).run Tryz.prog w = .ok (.enter g args) w)
    (hcall : ∀ w, Below W.heap.size W w → ∀ x ∈ xs, Calls Tryz.prog g (#[.string ⟨x.toArray⟩] ++ caps) w fun e w' => e = .returned (.bool (f x)) ∧ Below w.heap.size w w') (ha : 0 < xs.length → a = some ⟨b, o, none⟩ ∧ b < W.heap.size ∧ RdN W b o xs) (hn : xs.length ≤ 1073741824) :
    Calls Tryz.prog 264 #[.slice a xs.length cap, .func (.func g) #[] caps] W fun e W' => e = .returned (idxV (xs.findIdx? f)) ∧ Below W.heap.size W W' := by
  have HA := hide ha
  have HC := hide hcall
  have HX0 : Hid (IxI W f xs 0 W) := ⟨Below.refl _ _, by simp⟩
  clear ha hcall
  go_enter Tryz.func264, Tryz.ntmps264
  go_wp2_with fail
  go_loopw [8] (fun iv wr => ∃ i : Nat, iv = .int .i64 i ∧ i ≤ xs.length ∧ Hid (IxI W f xs i wr)) (fun iv _ => xs.length - intN iv)
  case atStart => exact ⟨0, rfl, by omega, HX0⟩
  case round =>
    clear HX0
    obtain ⟨i, rfl, hi2, HX⟩ := hrel
    by_cases hi : i < xs.length
    · have t1 : (i : Int) < xs.length := by omega
      have t0 : (0 : Int) ≤ (i : Int) := by omega
      obtain ⟨rfl, hb, hr⟩ := unhide HA (by omega)
      have cn := hr.below (unhide HX).below hb i xs[i] (List.getElem?_eq_getElem hi)
      have CF := hide (unhide HC wr (unhide HX).below xs[i] (List.getElem_mem hi))
      have hsz := (unhide HX).below.size
      have HF1 : Hid (f xs[i] = true → xs.findIdx? f = some i) := fun e => by
        rw [List.findIdx?_eq_some_iff_getElem]
        refine ⟨hi, e, fun j hj => ?_⟩
        have := (unhide HX).no xs[j] (List.mem_iff_getElem.2 ⟨j, by rw [List.length_take]; omega, by rw [List.getElem_take]⟩)
        rw [this]
        decide
      have HF2 : Hid (f xs[i] = false → ∀ x ∈ xs.take (i + 1), f x = false) := fun e x hx => by
        rw [List.take_succ_eq_append_getElem hi] at hx
        rcases List.mem_append.1 hx with h1 | h1
        · exact (unhide HX).no x h1
        · rw [List.mem_singleton] at h1; subst h1; exact e
      clear hr
      unfold strV at cn
      generalize xs[i] = x at *
      cases hfx : f x with
      | true =>
        have HI := hide (unhide HF1 hfx)
        rw [hfx] at CF
        clear HF1 HF2 hfx
        go_wp2_with (first
          | (go_at_fn g; refine (unhide CF).mono ?_; rintro e w1 ⟨rfl, hb1⟩; have HB1 := hide ((unhide HX).below.trans (hb1.mono hsz)); clear hb1)
          | fail)
        go_ret
        exact ⟨by rw [unhide HI]; rfl, unhide HB1⟩
      | false =>
        have HI := hide (unhide HF2 hfx)
        rw [hfx] at CF
        clear HF1 HF2 hfx
        go_wp2_with (first
          | (go_at_fn g; refine (unhide CF).mono ?_; rintro e w1 ⟨rfl, hb1⟩; have HX1 : Hid (IxI W f xs (i + 1) w1) := ⟨(unhide HX).below.trans (hb1.mono hsz), unhide HI⟩; clear hb1)
          | fail)
        go_roundw
        case rel => exact ⟨i + 1, by go_num, by omega, HX1⟩
        case measure => simp only [intN]; omega
    · have hie : i = xs.length := by omega
      subst hie
      have t1 : ¬ (xs.length : Int) < xs.length := by omega
      have HN : Hid (xs.findIdx? f = none) := by
        show _ = _
        rw [List.findIdx?_eq_none_iff]
        exact fun x hx => (unhide HX).no x (by rw [List.take_length]; exact hx)
      go_wp2_with fail
      go_ret
      exact ⟨by rw [unhide HN]; rfl, (unhide HX).below⟩
theorem any_idx (xs : List Pl.Bs) (f : Pl.Bs → Bool) : xs.any f = (xs.findIdx? f).isSome := by
  cases h : xs.findIdx? f with
  | none =>
    rw [List.findIdx?_eq_none_iff] at h
    rw [Option.isSome_none, List.any_eq_false]
    exact fun x hx => by rw [h x hx]; decide
  | some i =>
    rw [List.findIdx?_eq_some_iff_getElem] at h
    obtain ⟨h1, h2, -⟩ := h
    rw [Option.isSome_some, List.any_eq_true]
    exact ⟨_, List.getElem_mem h1, h2⟩
theorem containsFunc_any (xs : List Pl.Bs) (a : Option Addr) (cap b o g : Nat) (caps : Array Value) (f : Pl.Bs → Bool) (W : World) (hent : ∀ args w, (callFunc g args).run Tryz.prog w = .ok (.enter g args) w)
    (hcall : ∀ w, Below W.heap.size W w → ∀ x ∈ xs, Calls Tryz.prog g (#[.string ⟨x.toArray⟩] ++ caps) w fun e w' => e = .returned (.bool (f x)) ∧ Below w.heap.size w w') (ha : 0 < xs.length → a = some ⟨b, o, none⟩ ∧ b < W.heap.size ∧ RdN W b o xs) (hn : xs.length ≤ 1073741824) :
    Calls Tryz.prog 221 #[.slice a xs.length cap, .func (.func g) #[] caps] W fun e W' => e = .returned (.bool (xs.any f)) ∧ Below W.heap.size W W' := by
  have C1 := indexFunc_any xs a cap b o g caps f W hent hcall ha hn
  rw [any_idx]
  cases h : xs.findIdx? f with
  | none =>
    rw [h] at C1
    unfold idxV at C1
    have C2 := hide C1
    clear C1
    go_enter Tryz.func221, Tryz.ntmps221
    go_wp2_with (first
      | (go_at_call 264; refine (unhide C2).mono ?_; rintro e w1 ⟨rfl, hb1⟩; have HB1 := hide hb1; clear hb1)
      | fail)
    go_ret
    exact ⟨rfl, unhide HB1⟩
  | some i =>
    rw [h] at C1
    unfold idxV at C1
    have C2 := hide C1
    have t0 : (0 : Int) ≤ (i : Int) := by omega
    clear C1
    go_enter Tryz.func221, Tryz.ntmps221
    go_wp2_with (first
      | (go_at_call 264; refine (unhide C2).mono ?_; rintro e w1 ⟨rfl, hb1⟩; have HB1 := hide hb1; clear hb1)
      | fail)
    go_ret
    exact ⟨by simp, unhide HB1⟩
end Go.Proofs.YtjelacjggijmfaaGreatDoor
namespace Go.Proofs.YtjelacjggijmfaaGreatDoor
open Go.RowKit Go.MapKept Go.ChangeMaps Go.Maps

def sidesB (targets needs : List Pl.Bs) : Bool :=
  if targets.length = 0 ∨ targets.any placesB = true ∨ needs.any placesB = true then false
  else if targets.any placeB = true then decide (targets.length = 1) else !(needs.any placeB)
/-- Words in memory. -/
def WdR (W : World) (xs : List Pl.Bs) (a : Option Addr) : Prop := ∃ b o, 0 < xs.length → a = some ⟨b, o, none⟩ ∧ b < W.heap.size ∧ RdN W b o xs
theorem WdR.later {W W' : World} {xs : List Pl.Bs} {a : Option Addr} (h : WdR W xs a) (hb : Below W.heap.size W W') : WdR W' xs a := by
  obtain ⟨b, o, h1⟩ := h
  exact ⟨b, o, fun e => ⟨(h1 e).1, Nat.lt_of_lt_of_le (h1 e).2.1 hb.size, (h1 e).2.2.below hb (h1 e).2.1⟩⟩
theorem anyPlaces (xs : List Pl.Bs) (a : Option Addr) (cap : Nat) (W : World) (h : WdR W xs a) (hn : xs.length ≤ 1073741824) :
    Calls Tryz.prog 221 #[.slice a xs.length cap, .func (.func 226) #[] #[]] W fun e W' => e = .returned (.bool (xs.any placesB)) ∧ Below W.heap.size W W' := by
  obtain ⟨b, o, h1⟩ := h
  exact containsFunc_any xs a cap b o _ _ placesB W (enters_of Tryz.func226 (by kernel_rfl) rfl) (fun w _ x _ => (hasPlaces_any x w).mono (fun e w' h => ⟨h.1, h.2 ▸ Below.refl _ _⟩)) h1 hn
theorem anyPlace (xs : List Pl.Bs) (a : Option Addr) (cap : Nat) (W : World) (h : WdR W xs a) (hg : Glob W) (hn : xs.length ≤ 1073741824) (hl : ∀ x ∈ xs, x.length ≤ 4294967200) :
    Calls Tryz.prog 221 #[.slice a xs.length cap, .func (.func 227) #[] #[]] W fun e W' => e = .returned (.bool (xs.any placeB)) ∧ Below W.heap.size W W' := by
  obtain ⟨b, o, h1⟩ := h
  exact containsFunc_any xs a cap b o _ _ placeB W (enters_of Tryz.func227 (by kernel_rfl) rfl) (fun w hw x hx => (hasPlace_any x w (hg.later hw) (hl x hx)).mono (fun e w' h => ⟨h.1, h.2 ▸ Below.refl _ _⟩)) h1 hn
set_option maxHeartbeats 1000000 in
theorem mayBeSides_any (ts ns : List Pl.Bs) (a c : Option Addr) (ca cc : Nat) (W : World) (ht : WdR W ts a) (hs : WdR W ns c) (hg : Glob W) (hn : ts.length ≤ 1073741824) (hm : ns.length ≤ 1073741824) (hl : ∀ x ∈ ts, x.length ≤ 4294967200) (hk : ∀ x ∈ ns, x.length ≤ 4294967200) :
    Calls Tryz.prog 183 #[.slice a ts.length ca, .slice c ns.length cc] W fun e W' => e = .returned (.bool (sidesB ts ns)) ∧ Below W.heap.size W W' := by
  have HS : Hid (sidesB ts ns = if ts.length = 0 ∨ ts.any placesB = true ∨ ns.any placesB = true then false
  else if ts.any placeB = true then decide (ts.length = 1) else !(ns.any placeB)) := rfl
  have C1 := hide (anyPlaces ts a ca W ht hn)
  have C2 := hide (fun W' (hb : Below W.heap.size W W') => anyPlaces ns c cc W' (hs.later hb) hm)
  have C3 := hide (fun W' (hb : Below W.heap.size W W') => anyPlace ts a ca W' (ht.later hb) (hg.later hb) hn hl)
  have C4 := hide (fun W' (hb : Below W.heap.size W W') => anyPlace ns c cc W' (hs.later hb) (hg.later hb) hm hk)
  have HB0 := hide (Below.refl W.heap.size W)
  clear ht hs hg hl hk
  generalize sidesB ts ns = S at *
  generalize ts.any placesB = p1 at *
  generalize ns.any placesB = p2 at *
  generalize ts.any placeB = p3 at *
  generalize ns.any placeB = p4 at *
  generalize ts.length = n at *
  by_cases h0 : n = 0
  · have HE : Hid (S = false) := by show S = _; rw [unhide HS, if_pos (.inl h0)]
    have t0 : (((n : Nat) : Int) == 0) = true := by rw [h0]; rfl
    clear HS
    go_enter Tryz.func183, Tryz.ntmps183
    go_wp2_with fail
    go_ret
    exact ⟨by rw [unhide HE]; rfl, unhide HB0⟩
  have t0 : (((n : Nat) : Int) == 0) = false := by rw [beq_eq_false_iff_ne]; omega
  cases p1 with
  | true =>
    have HE : Hid (S = false) := by show S = _; rw [unhide HS, if_pos (.inr (.inl rfl))]
    clear HS
    go_enter Tryz.func183, Tryz.ntmps183
    go_wp2_with (first
      | (go_at_call 221; refine (unhide C1).mono ?_; clear C1; rintro e w1 ⟨rfl, hb1⟩; have HB1 := hide hb1; clear hb1)
      | fail)
    go_ret
    exact ⟨by rw [unhide HE]; rfl, unhide HB1⟩
  | false =>
    cases p2 with
    | true =>
      have HE : Hid (S = false) := by show S = _; rw [unhide HS, if_pos (.inr (.inr rfl))]
      clear HS
      go_enter Tryz.func183, Tryz.ntmps183
      go_wp2_with (first
        | (go_at_call 221; refine (unhide C1).mono ?_; clear C1; rintro e w1 ⟨rfl, hb1⟩; have HB1 := hide hb1; clear hb1)
        | (go_at_call 221; refine (unhide C2 _ (unhide HB1)).mono ?_; clear C2; rintro e w2 ⟨rfl, hb2⟩; have HB2 := hide ((unhide HB1).trans (hb2.mono (unhide HB1).size)); clear hb2)
        | fail)
      go_ret
      exact ⟨by rw [unhide HE]; rfl, unhide HB2⟩
    | false =>
      cases p3 with
      | true =>
        have HE : Hid (S = decide (n = 1)) := by show S = _; rw [unhide HS, if_neg (by simp [h0]), if_pos rfl]
        clear HS
        have hd : decide ((n : Int) = 1) = decide (n = 1) := by rw [decide_eq_decide]; omega
        have HD := hide hd
        clear hd
        go_enter Tryz.func183, Tryz.ntmps183
        go_wp2_with (first
          | (go_at_call 221; refine (unhide C1).mono ?_; clear C1; rintro e w1 ⟨rfl, hb1⟩; have HB1 := hide hb1; clear hb1)
          | (go_at_call 221; refine (unhide C2 _ (unhide HB1)).mono ?_; clear C2; rintro e w2 ⟨rfl, hb2⟩; have HB2 := hide ((unhide HB1).trans (hb2.mono (unhide HB1).size)); clear hb2)
          | (go_at_call 221; refine (unhide C3 _ (unhide HB2)).mono ?_; clear C3; rintro e w3 ⟨rfl, hb3⟩; have HB3 := hide ((unhide HB2).trans (hb3.mono (unhide HB2).size)); clear hb3)
          | fail)
        go_ret
        exact ⟨by rw [unhide HE, ← unhide HD]; rfl, unhide HB3⟩
      | false =>
        have HE : Hid (S = !p4) := by show S = _; rw [unhide HS, if_neg (by simp [h0]), if_neg (by decide)]
        clear HS
        go_enter Tryz.func183, Tryz.ntmps183
        go_wp2_with (first
          | (go_at_call 221; refine (unhide C1).mono ?_; clear C1; rintro e w1 ⟨rfl, hb1⟩; have HB1 := hide hb1; clear hb1)
          | (go_at_call 221; refine (unhide C2 _ (unhide HB1)).mono ?_; clear C2; rintro e w2 ⟨rfl, hb2⟩; have HB2 := hide ((unhide HB1).trans (hb2.mono (unhide HB1).size)); clear hb2)
          | (go_at_call 221; refine (unhide C3 _ (unhide HB2)).mono ?_; clear C3; rintro e w3 ⟨rfl, hb3⟩; have HB3 := hide ((unhide HB2).trans (hb3.mono (unhide HB2).size)); clear hb3)
          | (go_at_call 221; refine (unhide C4 _ (unhide HB3)).mono ?_; clear C4; rintro e w4 ⟨rfl, hb4⟩; have HB4 := hide ((unhide HB3).trans (hb4.mono (unhide HB3).size)); clear hb4)
          | fail)
        go_ret
        exact ⟨by rw [unhide HE]; first | rfl | simp, unhide HB4⟩
end Go.Proofs.YtjelacjggijmfaaGreatDoor
namespace Go.Proofs.YtjelacjggijmfaaGreatDoor
open Go.RowKit Go.MapKept Go.ChangeMaps Go.Maps

theorem wpList_append_run {P : Program} (w : World) {ops : Array Oper} {rest : List Oper} {o : Oper} {a : Act} {Q : Exit → Act → World → Prop} (hg : o.guard = none) (s x : Operand) (t u : TypeId) (hop : o.op = Op.call { callee := Callee.builtin Builtin.append, args := #[s, x], argTypes := #[t, u] }) (v1 v2 : Value) (hs : a.eval s = v1) (hx : a.eval x = v2) (v' : Value) (w' : World) (hrun : (Builtin.append_ #[t, u] o.type #[v1, v2]).run P w = .ok v' w') (hK : wpList P ops Q rest (a.put o.dst v') w') : wpList P ops Q (o :: rest) a w := by
  refine wpList_plain hg fun K hK' => ?_
  unfold Oper.wp
  simp [execOp, hop, resolve, invoke, builtin, hs, hx, hrun, Result.andThen]
  exact hK' _ _ hK
set_option maxHeartbeats 1000000 in
set_option maxRecDepth 100000 in
theorem grow_nil (n : Nat) (w : World) (hn : n ≤ 1073741824) :
    Calls Tryz.prog 288 #[.slice none 0 0, .int .i64 n] w fun e w' => ∃ v, e = .returned v ∧ w'.ownsRow w.heap.size 9 1 v 0 [] ∧ Below w.heap.size w w' := by
  obtain ⟨i0, hi0, hz0, hz1, hz2⟩ := info_parts Tryz.infoStr
  have h1 : ¬ ((n : Int) < 0) := by omega
  by_cases h0 : n = 0
  · subst h0
    go_enter Tryz.func288, Tryz.ntmps288
    go_wp2_with fail
    go_ret
    exact ⟨_, rfl, World.ownsRow_nil _ _ _ _, Below.refl _ _⟩
  · have hold := run_firstCells_none (P := Tryz.prog) w.drew i0.size 0 0 0
    have hfit : Builtin.nextslicecap (0 + n) 0 * i0.bytes ≤ 281474976710656 := growslice_fits (by omega) (by rw [hz2]; omega)
    have hrz : ∀ ty, (Builtin.append_ #[30, 3] ty #[.slice none 0 0, .int .i64 (n : Int)]).run Tryz.prog w = .ok (.slice (some ⟨w.heap.size, 0, none⟩) n (grownCap w n 0 9)) (w.drew.alloc (.cells (Builtin.zeroCells (Value.string ⟨#[]⟩).cells n ++ Builtin.zeroCells (Value.string ⟨#[]⟩).cells (grownCap w n 0 9 - n)) 9)) := fun ty => by
      have h := Lib.run_append_grow_zeros (P := Tryz.prog) w 30 3 ty 9 i0 _ .i64 .i64 Tryz.underlying30 Tryz.underlying3 hi0 hz0 none 0 0 [] hold n (by omega) (by omega) (by omega) (by omega) (by rw [hz2]; omega) hfit
      simpa using h
    have hGn := grownCap_ge w n 0 9
    have hG6 := grownCap_le_maxLen w n 0 9 (by unfold maxLen; omega)
    have HOW := hide (World.ownsRow_made (base := w.heap.size) (e := 9) (size := 1) w.drew (Builtin.zeroCells (Value.string ⟨#[]⟩).cells n ++ Builtin.zeroCells (Value.string ⟨#[]⟩).cells (grownCap w n 0 9 - n)) (grownCap w n 0 9) (Nat.le_refl _) hG6 (by rw [Array.size_append, size_zeroCells, size_zeroCells, show (Value.string ⟨#[]⟩).cells.size = 1 from rfl]; omega))
    have HBB := hide ((Below.refl w.heap.size w).drew.alloc (Nat.le_refl _) (.cells (Builtin.zeroCells (Value.string ⟨#[]⟩).cells n ++ Builtin.zeroCells (Value.string ⟨#[]⟩).cells (grownCap w n 0 9 - n)) 9))
    unfold maxLen at hG6
    generalize (w.drew.alloc (.cells (Builtin.zeroCells (Value.string ⟨#[]⟩).cells n ++ Builtin.zeroCells (Value.string ⟨#[]⟩).cells (grownCap w n 0 9 - n)) 9)) = W' at *
    generalize grownCap w n 0 9 = G at *
    have h4 : (0 : Int) < (n : Int) := by omega
    have i1 : (n : Int) ≤ 1073741824 := by omega
    have i2 : (0 : Int) ≤ (G : Int) := by omega
    have e1 : IntKind.wrap .i64 ((n : Int) - 0) = (n : Int) := by rw [Int.sub_zero]; exact wrap_small (by omega) (by omega)
    have e2 : IntKind.wrap .i64 (n : Int) = (n : Int) := wrap_small (by omega) (by omega)
    have HRZ := hide hrz
    clear hold hfit hrz
    go_enter Tryz.func288, Tryz.ntmps288
    go_wp2_with (first
      | (at_builtin; refine wpList_append_run _ rfl (.tmp 20) (.tmp 21) 30 3 rfl _ _ rfl rfl _ _ (unhide HRZ _) ?_)
      | fail)
    go_ret
    exact ⟨_, rfl, unhide HOW, unhide HBB⟩
end Go.Proofs.YtjelacjggijmfaaGreatDoor
