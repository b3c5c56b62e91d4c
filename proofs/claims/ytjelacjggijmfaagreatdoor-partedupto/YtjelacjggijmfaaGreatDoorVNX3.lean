/-
  Expanding, of package names: what stands behind a sign.
  Expanding, of package names: a reference.
  What a text expands to: step by step.
  Expanding, of package names: a late value; a reference.
-/
import Derived.Test.YtjelacjggijmfaaGreatDoorVNB
import Derived.Test.YtjelacjggijmfaaGreatDoorVW2
namespace Go.Proofs.YtjelacjggijmfaaGreatDoor
open Go.RowKit Go.MapKept Go.ChangeMaps Go.Maps

/-- What the signs answer, as long as what they ask is kept. -/
structure Sgn (c : Cel) (sv : Value) (sg : UInt8 → Option Cp.Bs) (SP : World → Prop) : Prop where
  f : ∃ g caps, sv = .func (.func g) #[] caps ∧ (∀ args w, (callFunc g args).run Tryz.prog w = .ok (.enter g args) w) ∧ ∀ W, SP W → ∀ ch : UInt8, Calls Tryz.prog g (#[.int .u8 ch.toNat] ++ caps) W fun e w' => (∃ (p : Cp.Bs) (ok : Bool), e = .returned (.tuple #[.string ⟨p.toArray⟩, .bool ok]) ∧ sg ch = (if ok then some p else none) ∧ p.length ≤ 1073741824) ∧ Below W.heap.size W w'
  keep : ∀ W W', SP W → ExT c W W' → SP W'
/-- Names' values are not too long. -/
def Short (L : NL) : Prop := ∀ x ∈ L, x.2.text.length ≤ 1073741824
theorem nOf_short {L : NL} (h : Short L) (k : Cp.Bs) : (nOf L k).text.length ≤ 1073741824 := by
  unfold nOf
  cases hf : L.find? (fun x => x.1 == k) with
  | none => simp [Cp.nv0]
  | some x => exact h x (List.mem_of_find?_eq_some hf)
def erV (r : Cp.Er) : Value := .tuple #[.string ⟨r.txt.toArray⟩, .int .i64 r.er]
/-- What expanding a text leaves, while so many references are left. -/
def ExpC (c : Cel) (sv : Value) (L : NL) (sg : UInt8 → Option Cp.Bs) (SP : World → Prop) (d : Nat) : Prop :=
  ∀ (W : World) (refs : Nat) (mk : List Cp.Bs) (text : Cp.Bs), ExM c sv L refs mk W → SP W → 301 ≤ refs + d → refs ≤ 300 → mk.length ≤ refs → text.length ≤ 1073741824 →
    Calls Tryz.prog 195 #[.string ⟨text.toArray⟩, .pointer (some ⟨c.s, 0, none⟩), .pointer (some ⟨c.f, 0, none⟩)] W fun e W' => ∃ r : Cp.Er, Cp.Exp (nOf L) sg mk refs [] text r ∧ e = .returned (erV r) ∧ r.txt.length ≤ 2000 ∧ r.refs ≤ 301 ∧ (r.er = 0 → r.refs ≤ 300) ∧ refs ≤ r.refs ∧ ExM c sv L r.refs mk W' ∧ ExT c W W'
theorem zeroSt (w : World) : (zeroValue 316).run Tryz.prog w = .ok (.agg #[]) w := by kernel_rfl
theorem zeroNv (w : World) : (zeroValue 307).run Tryz.prog w = .ok (.agg #[.string ⟨#[]⟩, .bool false]) w := by kernel_rfl
theorem fieldNv0 (t : ByteArray) (b : Bool) (w : World) : (Instr.field 307 (.agg #[.string t, .bool b]) 0).run Tryz.prog w = .ok (.string t) w := by
  simp [Instr.field, run_underlying Tryz.underlying307, asAgg, part]
theorem fieldNv1 (t : ByteArray) (b : Bool) (w : World) : (Instr.field 307 (.agg #[.string t, .bool b]) 1).run Tryz.prog w = .ok (.bool b) w := by
  simp [Instr.field, run_underlying Tryz.underlying307, asAgg, part]
section
variable {c : Cel} {sv : Value} {L : NL} {sg : UInt8 → Option Cp.Bs} {SP : World → Prop} {d : Nat}
set_option maxHeartbeats 2000000 in
set_option maxRecDepth 100000 in
theorem late_no (refs : Nat) (mk : List Cp.Bs) (name : Cp.Bs) (W : World) (h : ExM c sv L refs mk W) (hin : name ∈ mk) :
    Calls Tryz.prog 192 #[.string ⟨name.toArray⟩, .pointer (some ⟨c.m, 0, none⟩), .pointer (some ⟨c.e, 0, none⟩), .pointer (some ⟨c.n, 0, none⟩)] W fun e W' => e = .returned (erV ⟨[], 4, refs⟩) ∧ Below W.heap.size W W' := by
  have c0 := h.mbox.cell? (i := 0) rfl
  have hmg : mget (mEnts mk) name = some (.agg #[]) := by rw [mget_m, if_pos hin]
  have HS : Hid (SMap (W.alloc (.cells #[.string ⟨name.toArray⟩] 9)) c.mm (mEnts mk)) := h.marks.later ((Below.refl _ W).alloc (Nat.le_refl _) _)
  have hl := h.mbox.lt
  clear h
  go_enter_defers Tryz.func192, Tryz.ntmps192
  go_wp2_with (first
    | (at_lookup; refine wpList_look_ok_yes _ rfl _ _ 140 rfl 9 316 Tryz.underlying140 Tryz.underlying9 (.agg #[]) (zeroSt _) c.mm (mEnts mk) rfl (unhide HS) name rfl (.agg #[]) hmg ?_)
    | fail)
  exact ⟨_, results_tmp2 rfl _ _ _, rfl, ((Below.refl _ W).alloc (Nat.le_refl _) _).alloc (by rw [World.size_alloc]; omega) _⟩
set_option maxHeartbeats 2000000 in
set_option maxRecDepth 100000 in
theorem late_yes (HE : ExpC c sv L sg SP d) (hSg : Sgn c sv sg SP) (hL : Short L) (refs : Nat) (mk : List Cp.Bs) (name : Cp.Bs) (W : World) (h : ExM c sv L refs mk W) (hSP : SP W) (hd : 301 ≤ refs + d) (hr : refs ≤ 300) (hmk : mk.length + 1 ≤ refs) (hin : name ∉ mk) :
    Calls Tryz.prog 192 #[.string ⟨name.toArray⟩, .pointer (some ⟨c.m, 0, none⟩), .pointer (some ⟨c.e, 0, none⟩), .pointer (some ⟨c.n, 0, none⟩)] W fun e W' => ∃ r : Cp.Er, Cp.Exp (nOf L) sg (mk ++ [name]) refs [] (nOf L name).text r ∧ e = .returned (erV r) ∧ r.txt.length ≤ 2000 ∧ r.refs ≤ 301 ∧ (r.er = 0 → r.refs ≤ 300) ∧ refs ≤ r.refs ∧ ExM c sv L r.refs mk W' ∧ ExT c W W' := by
  have hmg : mget (mEnts mk) name = none := by rw [mget_m, if_neg hin]
  have hb1 : Below W.heap.size W (W.alloc (.cells #[.string ⟨name.toArray⟩] 9)) := (Below.refl _ W).alloc (Nat.le_refl _) _
  have hb2 : Below W.heap.size W ((W.alloc (.cells #[.string ⟨name.toArray⟩] 9)).alloc (.cells #[] 316)) := hb1.alloc (by rw [World.size_alloc]; omega) _
  have HM1 := hide (h.later hb1)
  have HM2 := hide (h.later hb2)
  have hR : Row ((W.alloc (.cells #[.string ⟨name.toArray⟩] 9)).alloc (.cells #[] 316)) W.heap.size 9 [.string ⟨name.toArray⟩] := (Row.new W 9 [.string ⟨name.toArray⟩]).alloc _
  have c0 := h.mbox.cell? (i := 0) rfl
  have hl := h.mbox.lt
  have hrl := h.rbox.lt
  have hSP3 : Hid (∀ w3, ExT c ((W.alloc (.cells #[.string ⟨name.toArray⟩] 9)).alloc (.cells #[] 316)) w3 → SP w3) := fun w3 ht => hSg.keep _ _ (hSg.keep _ _ hSP (Tn.later hb2)) ht
  have hNx : Hid (∀ w3, SMap w3 c.mm (mput (mEnts mk) name (.agg #[])) → World.mapTurned ((W.alloc (.cells #[.string ⟨name.toArray⟩] 9)).alloc (.cells #[] 316)) w3 c.mm → ExM c sv L refs (mk ++ [name]) w3) := fun w3 h1 h2 => (h.later hb2).next (turned_tn h2 (.inr rfl)) ((h.later hb2).rbox.tn (turned_tn (p := fun k => k = c.mm) h2 rfl) (row_ne_map (h.later hb2).rbox (h.later hb2).marks)) (by rw [← mput_m hin]; exact h1)
  have hf0 := fieldNv0
  have hmf : ∀ (fn : Fn) (first cap : Array Value) (w : World), (Instr.makeFunc fn first cap).run Tryz.prog w = .ok (.func fn first cap) w := fun _ _ _ _ => rfl
  have hmlt := (unhide HM1).mbox.lt
  have hnb := row_ne_map hR (unhide HM2).marks
  have HB2 := hide hb2
  have HR := hide hR
  clear h hb1 hb2 hR
  go_enter_defers Tryz.func192, Tryz.ntmps192
  go_wp2_with (first
    | (at_lookup; refine wpList_look_ok_no _ rfl _ _ 140 rfl 9 316 Tryz.underlying140 Tryz.underlying9 (.agg #[]) (zeroSt _) c.mm (mEnts mk) rfl (unhide HM1).marks name rfl hmg ?_)
    | (at_mapUpdate; refine wpList_put_s _ rfl _ _ _ 140 rfl 9 316 Tryz.underlying140 Tryz.underlying9 c.mm (mEnts mk) rfl (unhide HM2).marks (by unfold mEnts maxLen; rw [List.length_map]; omega) name rfl (.agg #[]) rfl ?_; intro w3 hs3 ht3; have HM3 := hide (unhide hNx _ hs3 ht3); have HT3 := hide (turned_tn (p := fun k => k = c.r ∨ k = c.mm) ht3 (.inr rfl)); have e0 := (unhide HM3).ebox.cell? (i := 0) rfl; have n0 := (unhide HM3).nbox.cell? (i := 0) rfl; have HR3 := hide ((unhide HR).tn (turned_tn (p := fun k => k = c.mm) ht3 rfl) hnb); have b0 := (unhide HR3).cell? (i := 0) rfl; clear hs3 ht3)
    | (at_lookup; refine wpList_look_one _ rfl _ _ 137 rfl 9 307 Tryz.underlying137 Tryz.underlying9 (nvV Cp.nv0) (zeroNv _) c.nm (nEnts L) rfl (unhide HM3).names name rfl (nvV (nOf L name)) (mget_n L name) ?_; unfold nvV strV)
    | (go_at_call 195; refine (HE _ refs (mk ++ [name]) (nOf L name).text (unhide HM3) (unhide hSP3 _ (unhide HT3)) hd hr (by simpa using hmk) (nOf_short hL name)).mono ?_; rintro e w4 ⟨r, hx, rfl, hl2, hr2, hr5, hr3, hm4, ht4⟩; unfold erV; have HM4 := hide hm4; have HT4 := hide ht4; have HX := hide hx; clear hx hm4 ht4)
    | fail)
  have hn4 : Row w4 W.heap.size 9 [.string ⟨name.toArray⟩] := (unhide HR3).tn (unhide HT4) (fun e => e.elim (fun e => by omega) hnb)
  refine leaves_cons (f := 193) (args := #[.pointer (some ⟨c.m, 0, none⟩), .pointer (some ⟨W.heap.size, 0, none⟩)]) (by simp) (by simp [go_sem]) ?_
  refine (unmark_any c.m W.heap.size c.mm mk name .returning w4 (unhide HM4).mbox hn4 (unhide HM4).marks).mono ?_
  rintro e u' w5 ⟨rfl, rfl, hs5, ht5⟩
  have ht5' : ExT c w4 w5 := ht5.mono (fun k e => .inr e)
  exact ⟨_, results_tmp2 rfl _ _ _, r, unhide HX, rfl, hl2, hr2, hr5, hr3, (unhide HM4).next ht5' ((unhide HM4).rbox.tn ht5 (row_ne_map (unhide HM4).rbox (unhide HM4).marks)) hs5, (((Tn.later (unhide HB2)).trans (unhide HT3)).trans (unhide HT4)).trans ht5'⟩
end
end Go.Proofs.YtjelacjggijmfaaGreatDoor
namespace Go.Cp
open Go

section
variable {N : Bs → Nv} {sg : UInt8 → Option Bs} {m : List Bs} {k : Nat} {a t rest : Bs} {r q : Er}
theorem Exp.nil (h : Mk.has 36 t = true) (hA : Mk.after 36 t = []) : Exp N sg m k a t ⟨[], 1, k⟩ := ⟨1, by rw [expF, if_neg (by rw [h]; decide), hA]⟩
theorem Exp.dollar (h : Mk.has 36 t = true) (hA : Mk.after 36 t = 36 :: rest) (hx : Exp N sg m k (addB (addB a (Mk.before 36 t)) [36]) rest r) : Exp N sg m k a t r := by
  obtain ⟨f, hf⟩ := hx
  refine ⟨f + 1, ?_⟩
  rw [expF, if_neg (by rw [h]; decide), hA]
  simp only [if_true]
  exact hf
theorem Exp.bad (h : Mk.has 36 t = true) (hA : Mk.after 36 t = 40 :: rest) (hb : Mk.has 41 rest = false ∨ Mk.isName (Mk.before 41 rest) = false) : Exp N sg m k a t ⟨[], 1, k⟩ := by
  refine ⟨1, ?_⟩
  rw [expF, if_neg (by rw [h]; decide), hA]
  simp only
  rw [if_neg (by decide), if_pos trivial, if_pos hb]
theorem Exp.sign {c : UInt8} (h : Mk.has 36 t = true) (hA : Mk.after 36 t = c :: rest) (h1 : c ≠ 36) (h2 : c ≠ 40) : (sg c = none → Exp N sg m k a t ⟨[], 1, k⟩) ∧ (∀ p, sg c = some p → Exp N sg m k (addB (addB a (Mk.before 36 t)) p) rest r → Exp N sg m k a t r) := by
  refine ⟨fun hs => ⟨1, ?_⟩, fun p hs hx => ?_⟩
  · rw [expF, if_neg (by rw [h]; decide), hA]
    simp only
    rw [if_neg h1, if_neg h2, hs]
  · obtain ⟨f, hf⟩ := hx
    refine ⟨f + 1, ?_⟩
    rw [expF, if_neg (by rw [h]; decide), hA]
    simp only
    rw [if_neg h1, if_neg h2, hs]
    exact hf
/-- What a reference comes to. -/
def ReferP (N : Bs → Nv) (sg : UInt8 → Option Bs) (m : List Bs) (k : Nat) (name : Bs) (r : Er) : Prop :=
  (300 < k + 1 ∧ r = ⟨[], 5, k + 1⟩) ∨ (¬ 300 < k + 1 ∧ (N name).late = true ∧ name ∈ m ∧ r = ⟨[], 4, k + 1⟩) ∨
  (¬ 300 < k + 1 ∧ (N name).late = true ∧ name ∉ m ∧ Exp N sg (m ++ [name]) (k + 1) [] (N name).text r) ∨ (¬ 300 < k + 1 ∧ (N name).late = false ∧ r = ⟨(N name).text, 0, k + 1⟩)
theorem Exp.ref (h : Mk.has 36 t = true) (hA : Mk.after 36 t = 40 :: rest) (hc : Mk.has 41 rest = true) (hn : Mk.isName (Mk.before 41 rest) = true) (hr : ReferP N sg m k (Mk.before 41 rest) r) :
    (r.er ≠ 0 → Exp N sg m k a t ⟨[], r.er, r.refs⟩) ∧ (r.er = 0 → ∀ q, Exp N sg m r.refs (addB (addB a (Mk.before 36 t)) r.txt) (Mk.after 41 rest) q → Exp N sg m k a t q) := by
  have hb : ¬ (Mk.has 41 rest = false ∨ Mk.isName (Mk.before 41 rest) = false) := by rw [hc, hn]; simp
  rcases hr with ⟨h1, rfl⟩ | ⟨h1, h2, h3, rfl⟩ | ⟨h1, h2, h3, f1, hf1⟩ | ⟨h1, h2, rfl⟩
  · refine ⟨fun _ => ⟨1, ?_⟩, fun e => by simp at e⟩
    rw [expF, if_neg (by rw [h]; decide), hA]
    simp only
    rw [if_neg (by decide), if_pos trivial, if_neg hb, if_pos h1]
  · refine ⟨fun _ => ⟨1, ?_⟩, fun e => by simp at e⟩
    rw [expF, if_neg (by rw [h]; decide), hA]
    simp only
    rw [if_neg (by decide), if_pos trivial, if_neg hb, if_neg h1, if_pos h2, if_pos h3]
  · refine ⟨fun e => ⟨f1 + 1, ?_⟩, fun e q hx => ?_⟩
    · rw [expF, if_neg (by rw [h]; decide), hA]
      simp only
      rw [if_neg (by decide), if_pos trivial, if_neg hb, if_neg h1, if_pos h2, if_neg h3, hf1]
      simp only
      rw [if_neg e]
    · obtain ⟨f2, hf2⟩ := hx
      refine ⟨f1 + f2 + 1, ?_⟩
      rw [expF, if_neg (by rw [h]; decide), hA]
      simp only
      rw [if_neg (by decide), if_pos trivial, if_neg hb, if_neg h1, if_pos h2, if_neg h3, expF_mono f1 (f1 + f2) _ _ _ _ _ (by omega) hf1]
      simp only
      rw [if_pos e]
      exact expF_mono f2 (f1 + f2) _ _ _ _ _ (by omega) hf2
  · refine ⟨fun e => by simp at e, fun _ q hx => ?_⟩
    obtain ⟨f, hf⟩ := hx
    refine ⟨f + 1, ?_⟩
    rw [expF, if_neg (by rw [h]; decide), hA]
    simp only
    rw [if_neg (by decide), if_pos trivial, if_neg hb, if_neg h1, if_neg (by rw [h2]; decide)]
    exact hf
end
end Go.Cp
namespace Go.Proofs.YtjelacjggijmfaaGreatDoor
open Go.RowKit Go.MapKept Go.ChangeMaps Go.Maps

section
variable {c : Cel} {sv : Value} {L : NL} {sg : UInt8 → Option Cp.Bs} {SP : World → Prop} {d : Nat}
theorem ExM.count {refs k : Nat} {mk : List Cp.Bs} {W : World} (h : ExM c sv L refs mk W) : ExM c sv L k mk (W.setCell ⟨c.r, 0, none⟩ (.int .i64 k)) ∧ ExT c W (W.setCell ⟨c.r, 0, none⟩ (.int .i64 k)) := by
  have ht : ExT c W (W.setCell ⟨c.r, 0, none⟩ (.int .i64 k)) := Tn.set W ⟨c.r, 0, none⟩ _ (.inl rfl)
  exact ⟨h.next ht (h.rbox.set 0 _) (h.marks.setCell (a := ⟨c.r, 0, none⟩) (fun e => row_ne_map h.rbox h.marks e.symm) _), ht⟩
set_option maxHeartbeats 2000000 in
set_option maxRecDepth 100000 in
theorem refer_any (HE : ExpC c sv L sg SP d) (hSg : Sgn c sv sg SP) (hL : Short L) (refs : Nat) (mk : List Cp.Bs) (name : Cp.Bs) (W : World) (h : ExM c sv L refs mk W) (hSP : SP W) (hd : 301 ≤ refs + 1 + d) (hr : refs ≤ 300) (hmk : mk.length ≤ refs) :
    Calls Tryz.prog 194 #[.string ⟨name.toArray⟩, .pointer (some ⟨c.r, 0, none⟩), .pointer (some ⟨c.n, 0, none⟩), .pointer (some ⟨c.l, 0, none⟩)] W fun e W' => ∃ r : Cp.Er, Cp.ReferP (nOf L) sg mk refs name r ∧ e = .returned (erV r) ∧ r.txt.length ≤ 1073741824 ∧ r.refs ≤ 301 ∧ (r.er = 0 → r.refs ≤ 300) ∧ refs ≤ r.refs ∧ ExM c sv L r.refs mk W' ∧ ExT c W W' := by
  have he1 : ((refs + 1 : Nat) : Int) = (refs : Int) + 1 := by push_cast; rfl
  obtain ⟨hM1, hT1⟩ := h.count (k := refs + 1)
  rw [he1] at hM1 hT1
  have r0 := h.rbox.cell? (i := 0) rfl
  have z0 := h.rbox.frozen 0
  have r1 := hM1.rbox.cell? (i := 0) rfl
  rw [he1] at r1
  have n1 := hM1.nbox.cell? (i := 0) rfl
  have l1 := hM1.lbox.cell? (i := 0) rfl
  have HM1 := hide hM1
  have HT1 := hide hT1
  have hSP1 := hSg.keep _ _ hSP hT1
  have hf0 := fieldNv0
  have hf1 := fieldNv1
  have hw : IntKind.wrap .i64 ((refs : Int) + 1) = (refs : Int) + 1 := wrap_small (by omega) (by omega)
  clear h hM1 hT1 he1
  by_cases h3 : 300 < refs + 1
  · have t1 : (300 : Int) < (refs : Int) + 1 := by omega
    go_enter Tryz.func194, Tryz.ntmps194
    go_wp2_with fail
    go_ret2
    exact ⟨⟨[], 5, refs + 1⟩, .inl ⟨h3, rfl⟩, rfl, by simp, by show refs + 1 ≤ 301; omega, fun e => by simp at e, Nat.le_succ _, unhide HM1, unhide HT1⟩
  · have t1 : ¬ (300 : Int) < (refs : Int) + 1 := by omega
    have hsh := nOf_short hL name
    by_cases hlate : (nOf L name).late = true
    · have t2 : nvV (nOf L name) = .agg #[.string ⟨(nOf L name).text.toArray⟩, .bool true] := by unfold nvV strV; rw [hlate]
      by_cases hin : name ∈ mk
      · have CL := hide (late_no (refs + 1) mk name _ (unhide HM1) hin)
        go_enter Tryz.func194, Tryz.ntmps194
        go_wp2_with (first
          | (at_lookup; refine wpList_look_one _ rfl _ _ 137 rfl 9 307 Tryz.underlying137 Tryz.underlying9 (nvV Cp.nv0) (zeroNv _) c.nm (nEnts L) rfl (unhide HM1).names name rfl _ ((mget_n L name).trans t2) ?_)
          | (go_at_call 192; refine (unhide CL).mono ?_; rintro e w2 ⟨rfl, hb2⟩; unfold erV; have HB2 := hide hb2; clear hb2)
          | fail)
        go_ret2
        exact ⟨⟨[], 4, refs + 1⟩, .inr (.inl ⟨h3, hlate, hin, rfl⟩), rfl, by simp, by show refs + 1 ≤ 301; omega, fun e => by simp at e, Nat.le_succ _, (unhide HM1).later (unhide HB2), (unhide HT1).trans (Tn.later (unhide HB2))⟩
      · have CL := hide (late_yes HE hSg hL (refs + 1) mk name _ (unhide HM1) hSP1 hd (by omega) (by omega) hin)
        go_enter Tryz.func194, Tryz.ntmps194
        go_wp2_with (first
          | (at_lookup; refine wpList_look_one _ rfl _ _ 137 rfl 9 307 Tryz.underlying137 Tryz.underlying9 (nvV Cp.nv0) (zeroNv _) c.nm (nEnts L) rfl (unhide HM1).names name rfl _ ((mget_n L name).trans t2) ?_)
          | (go_at_call 192; refine (unhide CL).mono ?_; rintro e w2 ⟨r, hx, rfl, q1, q2, q3, q4, q5, q6⟩; unfold erV; have HX := hide hx; have HQ5 := hide q5; have HQ6 := hide q6; clear hx q5 q6)
          | fail)
        go_ret2
        exact ⟨r, .inr (.inr (.inl ⟨h3, hlate, hin, unhide HX⟩)), rfl, by omega, q2, q3, by omega, unhide HQ5, (unhide HT1).trans (unhide HQ6)⟩
    · have hl0 : (nOf L name).late = false := by simpa using hlate
      have t2 : nvV (nOf L name) = .agg #[.string ⟨(nOf L name).text.toArray⟩, .bool false] := by unfold nvV strV; rw [hl0]
      go_enter Tryz.func194, Tryz.ntmps194
      go_wp2_with (first
        | (at_lookup; refine wpList_look_one _ rfl _ _ 137 rfl 9 307 Tryz.underlying137 Tryz.underlying9 (nvV Cp.nv0) (zeroNv _) c.nm (nEnts L) rfl (unhide HM1).names name rfl _ ((mget_n L name).trans t2) ?_)
        | fail)
      go_ret2
      exact ⟨⟨(nOf L name).text, 0, refs + 1⟩, .inr (.inr (.inr ⟨h3, hl0, rfl⟩)), rfl, hsh, by show refs + 1 ≤ 301; omega, fun _ => by show refs + 1 ≤ 300; omega, Nat.le_succ _, unhide HM1, unhide HT1⟩
end
end Go.Proofs.YtjelacjggijmfaaGreatDoor
namespace Go.Proofs.YtjelacjggijmfaaGreatDoor
open Go.RowKit Go.MapKept Go.ChangeMaps Go.Maps

/-- What is behind a sign: the part, the rest, the error; how many references then. -/
structure SignR (L : NL) (sg : UInt8 → Option Cp.Bs) (mk : List Cp.Bs) (refs : Nat) (text : Cp.Bs) (part rest : Cp.Bs) (er refs' : Nat) : Prop where
  bad : ∀ acc full, Mk.has 36 full = true → Mk.after 36 full = text → er ≠ 0 → Cp.Exp (nOf L) sg mk refs acc full ⟨[], er, refs'⟩
  good : ∀ acc full, Mk.has 36 full = true → Mk.after 36 full = text → er = 0 → ∀ r, Cp.Exp (nOf L) sg mk refs' (Cp.addB (Cp.addB acc (Mk.before 36 full)) part) rest r → Cp.Exp (nOf L) sg mk refs acc full r
  part_len : part.length ≤ 1073741824
  rest_len : er = 0 → rest.length < text.length
  refs_le : refs' ≤ 301
  refs_ok : er = 0 → refs' ≤ 300
  refs_ge : refs ≤ refs'
theorem ofL (s : ByteArray) : (⟨s.data.toList.toArray⟩ : ByteArray) = s := by cases s; simp
def sgV (part rest : Cp.Bs) (er : Nat) : Value := .tuple #[.string ⟨part.toArray⟩, .string ⟨rest.toArray⟩, .int .i64 er]
theorem after_len (c : UInt8) : ∀ l : Cp.Bs, (Mk.after c l).length ≤ l.length - 1 := fun l => by
  unfold Mk.after
  have := (List.dropWhile_sublist (fun x => !(x == c)) (l := l)).length_le
  rw [List.length_drop]
  omega
section
variable {c : Cel} {sv : Value} {L : NL} {sg : UInt8 → Option Cp.Bs} {SP : World → Prop} {d : Nat}
set_option maxHeartbeats 4000000 in
set_option maxRecDepth 100000 in
theorem sign_any (HE : ExpC c sv L sg SP d) (hSg : Sgn c sv sg SP) (hL : Short L) (refs : Nat) (mk : List Cp.Bs) (s : ByteArray) (W : World) (h : ExM c sv L refs mk W) (hSP : SP W) (hd : 301 ≤ refs + 1 + d) (hr : refs ≤ 300) (hmk : mk.length ≤ refs) (hs : s.size ≤ 1073741824) :
    Calls Tryz.prog 198 #[.string s, sv, .func (.func 194) #[] #[.pointer (some ⟨c.r, 0, none⟩), .pointer (some ⟨c.n, 0, none⟩), .pointer (some ⟨c.l, 0, none⟩)]] W fun e W' => ∃ (part rest : Cp.Bs) (er refs' : Nat), e = .returned (sgV part rest er) ∧ SignR L sg mk refs s.data.toList part rest er refs' ∧ ExM c sv L refs' mk W' ∧ ExT c W W' := by
  obtain ⟨g, caps, rfl, hent, hcall⟩ := hSg.f
  have HM := hide h
  by_cases h0 : s.size = 0
  · have hs0 : s = ⟨#[]⟩ := by cases s; simp_all [ByteArray.size]
    subst hs0
    go_enter Tryz.func198, Tryz.ntmps198
    go_wp2_with fail
    go_ret3
    exact ⟨[], [], 1, refs, rfl, ⟨fun acc full h1 h2 _ => Cp.Exp.nil h1 h2, fun _ _ _ _ e => by simp at e, by simp, fun e => by simp at e, by omega, fun e => by simp at e, Nat.le_refl _⟩, unhide HM, Tn.refl _ _⟩
  · have hpos : 0 < s.size := by omega
    have hdc := data_cons s hpos
    have hne : s.toList.isEmpty = false := by
      cases hb : s.toList.isEmpty with
      | false => rfl
      | true => exact absurd (by have := empty_of hb; rw [Lib.size_eq, this]; rfl) h0
    have hp1 : (1 : Int) ≤ (s.size : Int) := by omega
    have hxs : (s.extract 1 s.size).size + 1 = s.size := by simp; omega
    have hxl : (s.extract 1 s.size).data.toList.length + 1 = s.data.toList.length := by rw [hdc]; rfl
    by_cases h36 : s[0] = 36
    · have t1 : (((s[0]).toNat : Int) == 36) = true := by rw [h36]; rfl
      have t1' : ((s[0]).toNat : Int) = 36 := by rw [h36]; rfl
      go_enter Tryz.func198, Tryz.ntmps198
      go_wp2_with fail
      go_region
      all_goals go_wp2_with fail
      all_goals go_ret3
      all_goals exact ⟨[36], (s.extract 1 s.size).data.toList, 0, refs, by unfold sgV; rw [ofL]; rfl, ⟨fun _ _ _ _ e => absurd rfl e, fun acc full h1 h2 _ r hx => Cp.Exp.dollar h1 (h2.trans (hdc.trans (by rw [h36]))) hx, by simp, fun _ => by omega, by omega, fun _ => hr, Nat.le_refl _⟩, (unhide HM).later (Below.refl _ W).drew, Tn.later (Below.refl _ W).drew⟩
    · have t1 : ¬ ((s[0]).toNat : Int) = 36 := fun e => h36 (UInt8.toNat_inj.1 (show (s[0]).toNat = 36 by omega))
      have t1' : (((s[0]).toNat : Int) == 36) = false := by simpa using t1
      have CR : Hid (∀ W' name, ExM c (.func (.func g) #[] caps) L refs mk W' → SP W' → Calls Tryz.prog 194 #[.string ⟨List.toArray name⟩, .pointer (some ⟨c.r, 0, none⟩), .pointer (some ⟨c.n, 0, none⟩), .pointer (some ⟨c.l, 0, none⟩)] W' fun e W'' => ∃ r : Cp.Er, Cp.ReferP (nOf L) sg mk refs name r ∧ e = .returned (erV r) ∧ r.txt.length ≤ 1073741824 ∧ r.refs ≤ 301 ∧ (r.er = 0 → r.refs ≤ 300) ∧ refs ≤ r.refs ∧ ExM c (.func (.func g) #[] caps) L r.refs mk W'' ∧ ExT c W' W'') := fun W' name h1 h2 => refer_any HE hSg hL refs mk name W' h1 h2 hd hr hmk
      have hKP : Hid (∀ W', Below W.heap.size W W' → ExM c (.func (.func g) #[] caps) L refs mk W' ∧ SP W') := fun W' hb => ⟨h.later hb, hSg.keep _ _ hSP (Tn.later hb)⟩
      have hGL : Hid (Glob W.drew) := h.glob.later (Below.refl _ W).drew
      have HCALL := hide hcall
      clear h hcall
      by_cases h40 : s[0] = 40
      · have t2 : (((s[0]).toNat : Int) == 40) = true := by rw [h40]; rfl
        have t2' : ((s[0]).toNat : Int) = 40 := by rw [h40]; rfl
        have hA : ∀ full, Mk.after 36 full = s.data.toList → Mk.after 36 full = 40 :: (s.extract 1 s.size).data.toList := fun full e => e.trans (hdc.trans (by rw [h40]))
        generalize hX : s.extract 1 s.size = X at *
        have CC := hide (lCut 41 X W.drew (by omega) (unhide hGL))
        cases hhas : Mk.has 41 X.data.toList with
        | false =>
          rw [hhas] at CC
          go_enter Tryz.func198, Tryz.ntmps198
          go_wp2_with fail
          go_region
          all_goals go_wp2_with (first | (go_at_call 160; refine (unhide CC).mono ?_; rintro e w1 ⟨rfl, hb1⟩) | fail)
          all_goals go_ret3
          all_goals exact ⟨[], [], 1, refs, rfl, ⟨fun acc full h1 h2 _ => Cp.Exp.bad h1 (hA full h2) (.inl hhas), fun _ _ _ _ e => by simp at e, by simp, fun e => by simp at e, by omega, fun e => by simp at e, Nat.le_refl _⟩, (unhide hKP _ ((Below.refl _ W).drew.trans hb1)).1, Tn.later ((Below.refl _ W).drew.trans hb1)⟩
        | true =>
          rw [hhas] at CC
          have CN := hide (fun w => isName_any ⟨(Mk.before 41 X.data.toList).toArray⟩ w)
          have hlst : (⟨(Mk.before 41 X.data.toList).toArray⟩ : ByteArray).data.toList = Mk.before 41 X.data.toList := by simp
          have hal := after_len 41 X.data.toList
          rw [hlst] at CN
          cases hnm : Mk.isName (Mk.before 41 X.data.toList) with
          | false =>
            rw [hnm] at CN
            go_enter Tryz.func198, Tryz.ntmps198
            go_wp2_with fail
            go_region
            all_goals go_wp2_with (first
              | (go_at_call 160; refine (unhide CC).mono ?_; rintro e w1 ⟨rfl, hb1⟩)
              | (go_at_call 244; refine (unhide CN _).mono ?_; rintro e w2 ⟨rfl, hb2⟩)
              | fail)
            all_goals go_ret3
            all_goals exact ⟨[], [], 1, refs, rfl, ⟨fun acc full h1 h2 _ => Cp.Exp.bad h1 (hA full h2) (.inr hnm), fun _ _ _ _ e => by simp at e, by simp, fun e => by simp at e, by omega, fun e => by simp at e, Nat.le_refl _⟩, (unhide hKP _ (((Below.refl _ W).drew.trans hb1).trans (hb2.mono hb1.size))).1, Tn.later (((Below.refl _ W).drew.trans hb1).trans (hb2.mono hb1.size))⟩
          | true =>
            rw [hnm] at CN
            go_enter Tryz.func198, Tryz.ntmps198
            go_wp2_with fail
            go_region
            all_goals go_wp2_with (first
              | (go_at_call 160; refine (unhide CC).mono ?_; rintro e w1 ⟨rfl, hb1⟩)
              | (go_at_call 244; refine (unhide CN _).mono ?_; rintro e w2 ⟨rfl, hb2⟩; have HB2 := hide (((Below.refl _ W).drew.trans hb1).trans (hb2.mono hb1.size)))
              | (go_at_call 194; refine (unhide CR _ _ (unhide hKP _ (unhide HB2)).1 (unhide hKP _ (unhide HB2)).2).mono ?_; rintro e w3 ⟨r, hx, rfl, q1, q2, q3, q4, q5, q6⟩; unfold erV; have HX := hide hx; have HQ5 := hide q5; have HQ6 := hide q6; clear hx q5 q6)
              | fail)
            all_goals go_ret3
            all_goals exact ⟨r.txt, Mk.after 41 X.data.toList, r.er, r.refs, rfl, ⟨fun acc full h1 h2 e => (Cp.Exp.ref h1 (hA full h2) hhas hnm (unhide HX)).1 e, fun acc full h1 h2 e q hq => (Cp.Exp.ref h1 (hA full h2) hhas hnm (unhide HX)).2 e q hq, q1, fun _ => by omega, q2, q3, q4⟩, unhide HQ5, (Tn.later (unhide HB2)).trans (unhide HQ6)⟩
      · have t2 : ¬ ((s[0]).toNat : Int) = 40 := fun e => h40 (UInt8.toNat_inj.1 (show (s[0]).toNat = 40 by omega))
        have t2' : (((s[0]).toNat : Int) == 40) = false := by simpa using t2
        have CS := hide ((unhide HCALL) W.drew (unhide hKP _ (Below.refl _ W).drew).2 s[0])
        have hA : ∀ full, Mk.after 36 full = s.data.toList → Mk.after 36 full = s[0] :: (s.extract 1 s.size).data.toList := fun full e => e.trans hdc
        go_enter Tryz.func198, Tryz.ntmps198
        go_wp2_with fail
        go_region
        all_goals go_wp2_with (first
          | (go_at_fn g; refine (unhide CS).mono ?_; rintro e w1 ⟨⟨p, ok, rfl, hsg, hpl⟩, hb1⟩)
          | fail)
        all_goals go_ret3
        all_goals first
          | exact ⟨[], [], 1, refs, rfl, ⟨fun acc full h1 h2 _ => (Cp.Exp.sign (r := ⟨[], 1, refs⟩) h1 (hA full h2) h36 h40).1 (by rw [hsg, if_neg (by first | assumption | (rename_i hz; simpa using hz) | (rename_i hz _; simpa using hz))]), fun _ _ _ _ e => by simp at e, by simp, fun e => by simp at e, by omega, fun e => by simp at e, Nat.le_refl _⟩, (unhide hKP _ ((Below.refl _ W).drew.trans hb1)).1, Tn.later ((Below.refl _ W).drew.trans hb1)⟩
          | exact ⟨p, (s.extract 1 s.size).data.toList, 0, refs, by unfold sgV; rw [ofL]; rfl, ⟨fun _ _ _ _ e => absurd rfl e, fun acc full h1 h2 _ q hq => (Cp.Exp.sign h1 (hA full h2) h36 h40).2 p (by rw [hsg, if_pos (by first | assumption | (rename_i hz; simpa using hz) | (rename_i hz _; simpa using hz))]) hq, hpl, fun _ => by omega, by omega, fun _ => hr, Nat.le_refl _⟩, (unhide hKP _ ((Below.refl _ W).drew.trans hb1)).1, Tn.later ((Below.refl _ W).drew.trans hb1)⟩
end
end Go.Proofs.YtjelacjggijmfaaGreatDoor
