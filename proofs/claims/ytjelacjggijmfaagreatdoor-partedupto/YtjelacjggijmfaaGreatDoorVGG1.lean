/-
  The reader: a text is expanded.
  The book: whether a rule with commands has one of the targets.
  slices.IndexFunc, slices.ContainsFunc over rules.
  The walk over goals: whether needs are there.
-/
import Derived.Test.YtjelacjggijmfaaGreatDoorVGT6
namespace Go.Proofs.YtjelacjggijmfaaGreatDoor
open Go.RowKit Go.MapKept Go.ChangeMaps Go.Maps

/-- What the walk asks: the book and the world. -/
structure AtM (W : World) (wk bb nm bt pb bx bf bi : Nat) (vp ve v2 v3 v4 v5 : Value) (first : Pl.Bs) (l : Ents) (tg : Pl.Bs → Bool) (ef : List Pl.Eff) (fs : List Pl.File) (clock : Int) : Prop where
  row : Row W wk 193 [.pointer (some ⟨bb, 0, none⟩), .pointer (some ⟨bx, 0, none⟩), v2, v3, v4, v5]
  book : BkR W bb nm bt pb vp first
  tgts : SMap W bt l
  tg : ∀ name, ∃ a n c, (mget l name).getD (.slice none 0 0) = .slice a n c ∧ tg name = decide (0 < n)
  pw : PW W bx bf bi ve ef fs clock
  glob : Glob W
section
variable {W W' : World} {wk bb nm bt pb bx bf bi : Nat} {vp ve v2 v3 v4 v5 : Value} {first : Pl.Bs} {l : Ents} {tg : Pl.Bs → Bool} {ef : List Pl.Eff} {fs : List Pl.File} {clock : Int}
theorem AtM.later (h : AtM W wk bb nm bt pb bx bf bi vp ve v2 v3 v4 v5 first l tg ef fs clock) (hb : Below W.heap.size W W') : AtM W' wk bb nm bt pb bx bf bi vp ve v2 v3 v4 v5 first l tg ef fs clock :=
  ⟨h.row.later hb, Row.later h.book hb, h.tgts.later hb, h.tg, h.pw.later hb, h.glob.later hb⟩
def thereB (fs : List Pl.File) (tg : Pl.Bs → Bool) (stem : Pl.Bs) (n : Pl.Bs) : Bool := (Pl.look fs (fillB n stem)).isSome || tg (fillB n stem)
structure ThI (W : World) (f : Pl.Bs → Bool) (xs : List Pl.Bs) (i : Nat) (wr : World) : Prop where
  below : Below W.heap.size W wr
  yes : ∀ x ∈ xs.take i, f x = true
set_option maxHeartbeats 2000000 in
set_option maxRecDepth 100000 in
theorem areThere_any (xs : List Pl.Bs) (stem : Pl.Bs) (a : Option Addr) (cap b o : Nat) (h : AtM W wk bb nm bt pb bx bf bi vp ve v2 v3 v4 v5 first l tg ef fs clock) (ha : 0 < xs.length → a = some ⟨b, o, none⟩ ∧ b < W.heap.size ∧ RdN W b o xs) (hn : xs.length ≤ 1073741824) (hl : ∀ n ∈ xs, n.length ≤ 4294967200 ∧ n.length + Lib.countB ⟨n.toArray⟩ ⟨#[37]⟩ * stem.length ≤ 140737488355328) :
    Calls Tryz.prog 141 #[.pointer (some ⟨wk, 0, none⟩), .slice a xs.length cap, .string ⟨stem.toArray⟩] W fun e W' => e = .returned (.bool (xs.all (thereB fs tg stem))) ∧ Below W.heap.size W W' := by
  have HA := hide ha
  have HL := hide hl
  have HH := hide h
  have HX0 : Hid (ThI W (thereB fs tg stem) xs 0 W) := ⟨Below.refl _ _, by simp⟩
  clear ha hl h
  go_enter Tryz.func141, Tryz.ntmps141
  go_wp2_with fail
  go_loopw [12] (fun iv wr => ∃ i : Nat, iv = .int .i64 i ∧ i ≤ xs.length ∧ Hid (ThI W (thereB fs tg stem) xs i wr)) (fun iv _ => xs.length - intN iv)
  case atStart => exact ⟨0, rfl, by omega, HX0⟩
  case round =>
    clear HX0
    obtain ⟨i, rfl, hi2, HX⟩ := hrel
    by_cases hi : i < xs.length
    · have t1 : (i : Int) < xs.length := by omega
      have t0 : (0 : Int) ≤ (i : Int) := by omega
      obtain ⟨rfl, hb, hr⟩ := unhide HA (by omega)
      have cn := hr.below (unhide HX).below hb i xs[i] (List.getElem?_eq_getElem hi)
      obtain ⟨l1, l2⟩ := unhide HL xs[i] (List.getElem_mem hi)
      have HM := hide ((unhide HH).later (unhide HX).below)
      have hsz := (unhide HX).below.size
      have HF1 : Hid (thereB fs tg stem xs[i] = false → xs.all (thereB fs tg stem) = false) := fun e => by
        show _ = _
        rw [List.all_eq_false]
        exact ⟨xs[i], List.getElem_mem hi, by rw [e]; decide⟩
      have HF2 : Hid (thereB fs tg stem xs[i] = true → ∀ x ∈ xs.take (i + 1), thereB fs tg stem x = true) := fun e x hx => by
        rw [List.take_succ_eq_append_getElem hi] at hx
        rcases List.mem_append.1 hx with h1 | h1
        · exact (unhide HX).yes x h1
        · rw [List.mem_singleton] at h1; subst h1; exact e
      clear hr
      generalize xs[i] = x at *
      have HD : Hid (thereB fs tg stem x = ((Pl.look fs (fillB x stem)).isSome || tg (fillB x stem))) := rfl
      have CF := hide (fill_any x stem wr (unhide HM).glob l1 l2)
      obtain ⟨ta, tn, tc, hu, htg⟩ := (unhide HM).tg (fillB x stem)
      have CH := hide (fun w1 (hb1 : Below wr.heap.size wr w1) => has_any bx bf bi ve ef fs clock (fillB x stem) w1 ((unhide HM).pw.later hb1))
      have CT := hide (fun w1 (hb1 : Below wr.heap.size wr w1) => isTarget_any bb nm bt pb vp first l (fillB x stem) ta tn tc w1 (Row.later (unhide HM).book hb1) ((unhide HM).tgts.later hb1) hu)
      rw [← htg] at CT
      clear hu htg
      generalize fillB x stem = y at *
      generalize (Pl.look fs y).isSome = p1 at *
      generalize tg y = p2 at *
      unfold strV at cn
      cases p1 with
      | true =>
        have HI := hide (unhide HF2 (by rw [unhide HD]; rfl))
        clear HF1 HF2 HD
        go_wp2_with (first
          | (go_at_call 187; refine (unhide CF).mono ?_; clear CF; rintro e w1 ⟨rfl, hb1⟩; have c1 := Row.cell? (i := 1) ((unhide HM).row.later hb1) rfl; have HB1 := hide hb1; clear hb1)
          | (go_at_call 174; refine (unhide CH _ (unhide HB1)).mono ?_; clear CH; rintro e w2 ⟨rfl, hb2⟩; have HX2 : Hid (ThI W (thereB fs tg stem) xs (i + 1) w2) := ⟨(unhide HX).below.trans (((unhide HB1).trans (hb2.mono (unhide HB1).size)).mono hsz), unhide HI⟩; clear hb2)
          | fail)
        go_roundw
        case rel => exact ⟨i + 1, by go_num, by omega, HX2⟩
        case measure => simp only [intN]; omega
      | false =>
        cases p2 with
        | true =>
          have HI := hide (unhide HF2 (by rw [unhide HD]; rfl))
          clear HF1 HF2 HD
          go_wp2_with (first
            | (go_at_call 187; refine (unhide CF).mono ?_; clear CF; rintro e w1 ⟨rfl, hb1⟩; have c1 := Row.cell? (i := 1) ((unhide HM).row.later hb1) rfl; have HB1 := hide hb1; clear hb1)
            | (go_at_call 174; refine (unhide CH _ (unhide HB1)).mono ?_; clear CH; rintro e w2 ⟨rfl, hb2⟩; have HB2 := hide ((unhide HB1).trans (hb2.mono (unhide HB1).size)); have c0 := Row.cell? (i := 0) ((unhide HM).row.later (unhide HB2)) rfl; clear hb2)
            | (go_at_call 188; refine (unhide CT _ (unhide HB2)).mono ?_; clear CT; rintro e w3 ⟨rfl, rfl⟩; have HX2 : Hid (ThI W (thereB fs tg stem) xs (i + 1) w3) := ⟨(unhide HX).below.trans ((unhide HB2).mono hsz), unhide HI⟩)
            | fail)
          go_roundw
          case rel => exact ⟨i + 1, by go_num, by omega, HX2⟩
          case measure => simp only [intN]; omega
        | false =>
          have HI := hide (unhide HF1 (by rw [unhide HD]; rfl))
          clear HF1 HF2 HD
          go_wp2_with (first
            | (go_at_call 187; refine (unhide CF).mono ?_; clear CF; rintro e w1 ⟨rfl, hb1⟩; have c1 := Row.cell? (i := 1) ((unhide HM).row.later hb1) rfl; have HB1 := hide hb1; clear hb1)
            | (go_at_call 174; refine (unhide CH _ (unhide HB1)).mono ?_; clear CH; rintro e w2 ⟨rfl, hb2⟩; have HB2 := hide ((unhide HB1).trans (hb2.mono (unhide HB1).size)); have c0 := Row.cell? (i := 0) ((unhide HM).row.later (unhide HB2)) rfl; clear hb2)
            | (go_at_call 188; refine (unhide CT _ (unhide HB2)).mono ?_; clear CT; rintro e w3 ⟨rfl, rfl⟩)
            | fail)
          go_ret
          exact ⟨by rw [unhide HI]; rfl, (unhide HX).below.trans ((unhide HB2).mono hsz)⟩
    · have hie : i = xs.length := by omega
      subst hie
      have t1 : ¬ (xs.length : Int) < xs.length := by omega
      have HI : Hid (xs.all (thereB fs tg stem) = true) := by
        show _ = _
        rw [List.all_eq_true]
        exact fun x hx => (unhide HX).yes x (by rw [List.take_length]; exact hx)
      go_wp2_with fail
      go_ret
      exact ⟨by rw [unhide HI]; rfl, (unhide HX).below⟩
end
end Go.Proofs.YtjelacjggijmfaaGreatDoor
namespace Go.Proofs.YtjelacjggijmfaaGreatDoor
open Go.RowKit Go.MapKept Go.ChangeMaps Go.Maps

/-- Pointers that lie in a row. -/
def RdP (W : World) (b o : Nat) (rs : List Nat) : Prop := ∀ (j : Nat) (r : Nat), rs[j]? = some r → W.cell? ⟨b, o + j, none⟩ = some (.pointer (some ⟨r, 0, none⟩))
theorem RdP.below {W W' : World} {b o L : Nat} {rs : List Nat} (h : RdP W b o rs) (hb : Below L W W') (hl : b < L) : RdP W' b o rs := fun j x hj => (hb.cell (p := ⟨b, o + j, none⟩) hl).trans (h j x hj)
structure IxP (W : World) (f : Nat → Bool) (xs : List Nat) (i : Nat) (wr : World) : Prop where
  below : Below W.heap.size W wr
  no : ∀ x ∈ xs.take i, f x = false
set_option maxHeartbeats 1000000 in
set_option maxRecDepth 100000 in
theorem indexPtr_any (xs : List Nat) (a : Option Addr) (cap b o g : Nat) (caps : Array Value) (f : Nat → Bool) (W : World) (hent : ∀ args w, (callFunc g args).run Tryz.prog w = .ok (.enter g args) w)
    (hcall : ∀ w, Below W.heap.size W w → ∀ x ∈ xs, Calls Tryz.prog g (#[.pointer (some ⟨x, 0, none⟩)] ++ caps) w fun e w' => e = .returned (.bool (f x)) ∧ Below w.heap.size w w') (ha : 0 < xs.length → a = some ⟨b, o, none⟩ ∧ b < W.heap.size ∧ RdP W b o xs) (hn : xs.length ≤ 1073741824) :
    Calls Tryz.prog 265 #[.slice a xs.length cap, .func (.func g) #[] caps] W fun e W' => e = .returned (idxV (xs.findIdx? f)) ∧ Below W.heap.size W W' := by
  have HA := hide ha
  have HC := hide hcall
  have HX0 : Hid (IxP W f xs 0 W) := ⟨Below.refl _ _, by simp⟩
  clear ha hcall
  go_enter Tryz.func265, Tryz.ntmps265
  go_wp2_with fail
  go_loopw [8] (fun iv wr => ∃ i : Nat, iv = .int .i64 i ∧ i ≤ xs.length ∧ Hid (IxP W f xs i wr)) (fun iv _ => xs.length - intN iv)
  case atStart => exact ⟨0, rfl, by omega, HX0⟩
  case round =>
    clear HX0
    obtain ⟨i, rfl, hi2, HX⟩ := hrel
    by_cases hi : i < xs.length
    · have t1 : (i : Int) < xs.length := by omega
      have t0 : (0 : Int) ≤ (i : Int) := by omega
      obtain ⟨rfl, hb, hr⟩ := unhide HA (by omega)
      have cn := hr.below (unhide HX).below hb i xs[i] (List.getElem?_eq_getElem hi)
      have CF := hide (unhide HC wr (unhide HX).below xs[i] (List.getElem_mem hi))
      have hsz := (unhide HX).below.size
      have HF1 : Hid (f xs[i] = true → xs.findIdx? f = some i) := fun e => by
        rw [List.findIdx?_eq_some_iff_getElem]
        refine ⟨hi, e, fun j hj => ?_⟩
        have := (unhide HX).no xs[j] (List.mem_iff_getElem.2 ⟨j, by rw [List.length_take]; omega, by rw [List.getElem_take]⟩)
        rw [this]
        decide
      have HF2 : Hid (f xs[i] = false → ∀ x ∈ xs.take (i + 1), f x = false) := fun e x hx => by
        rw [List.take_succ_eq_append_getElem hi] at hx
        rcases List.mem_append.1 hx with h1 | h1
        · exact (unhide HX).no x h1
        · rw [List.mem_singleton] at h1; subst h1; exact e
      clear hr
      generalize xs[i] = x at *
      cases hfx : f x with
      | true =>
        have HI := hide (unhide HF1 hfx)
        rw [hfx] at CF
        clear HF1 HF2 hfx
        go_wp2_with (first
          | (go_at_fn g; refine (unhide CF).mono ?_; rintro e w1 ⟨rfl, hb1⟩; have HB1 := hide ((unhide HX).below.trans (hb1.mono hsz)); clear hb1)
          | fail)
        go_ret
        exact ⟨by rw [unhide HI]; rfl, unhide HB1⟩
      | false =>
        have HI := hide (unhide HF2 hfx)
        rw [hfx] at CF
        clear HF1 HF2 hfx
        go_wp2_with (first
          | (go_at_fn g; refine (unhide CF).mono ?_; rintro e w1 ⟨rfl, hb1⟩; have HX1 : Hid (IxP W f xs (i + 1) w1) := ⟨(unhide HX).below.trans (hb1.mono hsz), unhide HI⟩; clear hb1)
          | fail)
        go_roundw
        case rel => exact ⟨i + 1, by go_num, by omega, HX1⟩
        case measure => simp only [intN]; omega
    · have hie : i = xs.length := by omega
      subst hie
      have t1 : ¬ (xs.length : Int) < xs.length := by omega
      have HN : Hid (xs.findIdx? f = none) := by
        show _ = _
        rw [List.findIdx?_eq_none_iff]
        exact fun x hx => (unhide HX).no x (by rw [List.take_length]; exact hx)
      go_wp2_with fail
      go_ret
      exact ⟨by rw [unhide HN]; rfl, (unhide HX).below⟩
theorem any_idxP (xs : List Nat) (f : Nat → Bool) : xs.any f = (xs.findIdx? f).isSome := by
  cases h : xs.findIdx? f with
  | none =>
    rw [List.findIdx?_eq_none_iff] at h
    rw [Option.isSome_none, List.any_eq_false]
    exact fun x hx => by rw [h x hx]; decide
  | some i =>
    rw [List.findIdx?_eq_some_iff_getElem] at h
    obtain ⟨h1, h2, -⟩ := h
    rw [Option.isSome_some, List.any_eq_true]
    exact ⟨_, List.getElem_mem h1, h2⟩
theorem containsPtr_any (xs : List Nat) (a : Option Addr) (cap b o g : Nat) (caps : Array Value) (f : Nat → Bool) (W : World) (hent : ∀ args w, (callFunc g args).run Tryz.prog w = .ok (.enter g args) w)
    (hcall : ∀ w, Below W.heap.size W w → ∀ x ∈ xs, Calls Tryz.prog g (#[.pointer (some ⟨x, 0, none⟩)] ++ caps) w fun e w' => e = .returned (.bool (f x)) ∧ Below w.heap.size w w') (ha : 0 < xs.length → a = some ⟨b, o, none⟩ ∧ b < W.heap.size ∧ RdP W b o xs) (hn : xs.length ≤ 1073741824) :
    Calls Tryz.prog 223 #[.slice a xs.length cap, .func (.func g) #[] caps] W fun e W' => e = .returned (.bool (xs.any f)) ∧ Below W.heap.size W W' := by
  have C1 := indexPtr_any xs a cap b o g caps f W hent hcall ha hn
  rw [any_idxP]
  cases h : xs.findIdx? f with
  | none =>
    rw [h] at C1
    unfold idxV at C1
    have C2 := hide C1
    clear C1
    go_enter Tryz.func223, Tryz.ntmps223
    go_wp2_with (first
      | (go_at_call 265; refine (unhide C2).mono ?_; rintro e w1 ⟨rfl, hb1⟩; have HB1 := hide hb1; clear hb1)
      | fail)
    go_ret
    exact ⟨rfl, unhide HB1⟩
  | some i =>
    rw [h] at C1
    unfold idxV at C1
    have C2 := hide C1
    have t0 : (0 : Int) ≤ (i : Int) := by omega
    clear C1
    go_enter Tryz.func223, Tryz.ntmps223
    go_wp2_with (first
      | (go_at_call 265; refine (unhide C2).mono ?_; rintro e w1 ⟨rfl, hb1⟩; have HB1 := hide hb1; clear hb1)
      | fail)
    go_ret
    exact ⟨by simp, unhide HB1⟩
end Go.Proofs.YtjelacjggijmfaaGreatDoor
namespace Go.Proofs.YtjelacjggijmfaaGreatDoor
open Go.RowKit Go.MapKept Go.ChangeMaps Go.Maps

structure HcM (W : World) (bb nm bt pb : Nat) (vp : Value) (first : Pl.Bs) (l : Ents) (rs : Pl.Bs → List Nat) (hc : Nat → Bool) : Prop where
  book : BkR W bb nm bt pb vp first
  tgts : SMap W bt l
  of : ∀ name, ∃ a c b o, (mget l name).getD (.slice none 0 0) = .slice a (rs name).length c ∧ (0 < (rs name).length → a = some ⟨b, o, none⟩ ∧ b < W.heap.size ∧ RdP W b o (rs name))
  rules : ∀ name, ∀ r ∈ rs name, ∃ v1 v2 a n c, Row W r 273 [v1, v2, .slice a n c] ∧ hc r = decide (0 < n)
  lens : ∀ name, (rs name).length ≤ 1073741824
section
variable {W W' : World} {bb nm bt pb : Nat} {vp : Value} {first : Pl.Bs} {l : Ents} {rs : Pl.Bs → List Nat} {hc : Nat → Bool}
theorem HcM.later (h : HcM W bb nm bt pb vp first l rs hc) (hb : Below W.heap.size W W') : HcM W' bb nm bt pb vp first l rs hc := by
  refine ⟨Row.later h.book hb, h.tgts.later hb, fun name => ?_, fun name r hr => ?_, h.lens⟩
  · obtain ⟨a, c, b, o, h1, h2⟩ := h.of name
    exact ⟨a, c, b, o, h1, fun e => ⟨(h2 e).1, Nat.lt_of_lt_of_le (h2 e).2.1 hb.size, (h2 e).2.2.below hb (h2 e).2.1⟩⟩
  · obtain ⟨v1, v2, a, n, c, h1, h2⟩ := h.rules name r hr
    exact ⟨v1, v2, a, n, c, h1.later hb, h2⟩
theorem hasC_rule (r n c : Nat) (v1 v2 : Value) (a : Option Addr) (W : World) (h : Row W r 273 [v1, v2, .slice a n c]) :
    Calls Tryz.prog 224 #[.pointer (some ⟨r, 0, none⟩)] W fun e W' => e = .returned (.bool (decide (0 < n))) ∧ W' = W := by
  have c2 := h.cell? (i := 2) rfl
  have hd : decide ((0 : Int) < (n : Int)) = decide (0 < n) := by rw [decide_eq_decide]; omega
  have HD := hide hd
  clear h hd
  go_enter Tryz.func224, Tryz.ntmps224
  go_wp2_with fail
  go_ret
  exact ⟨by rw [← unhide HD]; first | rfl | simp, rfl⟩
theorem hasC_target (xb : Nat) (target : Pl.Bs) (h : HcM W bb nm bt pb vp first l rs hc) (hx : Row W xb 127 [.pointer (some ⟨bb, 0, none⟩)]) :
    Calls Tryz.prog 222 #[.string ⟨target.toArray⟩, .pointer (some ⟨xb, 0, none⟩)] W fun e W' => e = .returned (.bool ((rs target).any hc)) ∧ Below W.heap.size W W' := by
  obtain ⟨a, c, b, o, hu, h2⟩ := h.of target
  have c3 := Row.cell? (i := 3) h.book rfl
  have c0 := hx.cell? (i := 0) rfl
  have CC := hide (containsPtr_any (rs target) a c b o 224 #[] hc W (enters_of Tryz.func224 (by kernel_rfl) rfl) (fun w hw r hr => by
    obtain ⟨v1, v2, a', n, c', h3, h4⟩ := h.rules target r hr
    rw [h4]
    exact (hasC_rule r n c' v1 v2 a' w (h3.later hw)).mono (fun e w' q => ⟨q.1, q.2 ▸ Below.refl _ _⟩)) h2 (h.lens target))
  have HT := hide h.tgts
  have HU := hide hu
  clear h hx h2 hu
  go_enter Tryz.func222, Tryz.ntmps222
  go_wp2_with (first
    | (at_lookup; refine wpList_look_one _ rfl _ _ 139 rfl 9 138 Tryz.underlying139 Tryz.underlying9 (.slice none 0 0) (zeroRules _) bt l rfl (unhide HT) target rfl _ (unhide HU) ?_)
    | (go_at_call 223; refine (unhide CC).mono ?_; rintro e w1 ⟨rfl, hb1⟩; have HB1 := hide hb1; clear hb1)
    | fail)
  go_ret
  exact ⟨rfl, unhide HB1⟩
theorem hasCommands_any (ts : List Pl.Bs) (a : Option Addr) (cap b o : Nat) (h : HcM W bb nm bt pb vp first l rs hc) (ha : 0 < ts.length → a = some ⟨b, o, none⟩ ∧ b < W.heap.size ∧ RdN W b o ts) (hn : ts.length ≤ 1073741824) :
    Calls Tryz.prog 181 #[.pointer (some ⟨bb, 0, none⟩), .slice a ts.length cap] W fun e W' => e = .returned (.bool (ts.any fun t => (rs t).any hc)) ∧ Below W.heap.size W W' := by
  have q1 := (Below.refl W.heap.size W).alloc (Nat.le_refl _) (.cells #[.pointer (some ⟨bb, 0, none⟩)] 127)
  have rX := Row.new W 127 [.pointer (some ⟨bb, 0, none⟩)]
  have CC := hide (containsFunc_any ts a cap b o 222 #[.pointer (some ⟨W.heap.size, 0, none⟩)] (fun t => (rs t).any hc) (W.alloc (.cells #[.pointer (some ⟨bb, 0, none⟩)] 127)) (enters_of Tryz.func222 (by kernel_rfl) rfl) (fun w hw x _ => hasC_target W.heap.size x ((h.later q1).later hw) (rX.later hw)) (fun e => ⟨(ha e).1, Nat.lt_of_lt_of_le (ha e).2.1 q1.size, (ha e).2.2.below q1 (ha e).2.1⟩) hn)
  have HQ := hide q1
  clear h ha q1 rX
  go_enter Tryz.func181, Tryz.ntmps181
  go_wp2_with (first
    | (go_at_call 221; refine (unhide CC).mono ?_; rintro e w1 ⟨rfl, hb1⟩; have HB1 := hide ((unhide HQ).trans (hb1.mono (unhide HQ).size)); clear hb1)
    | fail)
  go_ret
  exact ⟨rfl, unhide HB1⟩
end
end Go.Proofs.YtjelacjggijmfaaGreatDoor
namespace Go.Proofs.YtjelacjggijmfaaGreatDoor
open Go.RowKit Go.MapKept Go.ChangeMaps Go.Maps

theorem rdExpand_any (rd bb nm bt pb : Nat) (vp v0 v2 v3 v4 : Value) (first text : Pl.Bs) (L : NL) (W : World) (hr : Row W rd 186 [v0, .pointer (some ⟨bb, 0, none⟩), v2, v3, v4]) (h : BkR W bb nm bt pb vp first) (hN : SMap W nm (nEnts L)) (hL : Short L) (hg : Glob W) (ht : text.length ≤ 1073741824) :
    Calls Tryz.prog 182 #[.pointer (some ⟨rd, 0, none⟩), .string ⟨text.toArray⟩] W fun e W' => ∃ r : Cp.Er, Cp.Exp (nOf L) (fun _ => none) [] 0 [] text r ∧ e = .returned (erV r) ∧ r.txt.length ≤ 2000 ∧ Below W.heap.size W W' := by
  have c1 := hr.cell? (i := 1) rfl
  have b0 := Row.cell? (i := 0) h rfl
  have CE := hide (expand_any nm (.func (.func 225) #[] #[]) L (fun _ => none) (fun _ => True) text W (fun c _ _ => noSigns c) (fun _ _ => trivial) hL hN hg ht)
  clear hr h hN hg
  go_enter Tryz.func182, Tryz.ntmps182
  go_wp2_with (first
    | (go_at_call 94; refine (unhide CE).mono ?_; clear CE; rintro e w1 ⟨r, hx, rfl, hl1, hb1⟩; have HX := hide hx; have HB1 := hide hb1; unfold erV; clear hx hb1)
    | fail)
  go_ret2
  exact ⟨r, unhide HX, rfl, hl1, unhide HB1⟩
end Go.Proofs.YtjelacjggijmfaaGreatDoor
