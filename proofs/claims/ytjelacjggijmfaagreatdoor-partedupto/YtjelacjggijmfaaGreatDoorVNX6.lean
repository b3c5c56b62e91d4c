/-
  Words with one blank between, and the plain form of one line.
  Expanding, of package names: Expand.
  Expanding, of package names: a text.
-/
import Derived.Test.YtjelacjggijmfaaGreatDoorVNX3
import Derived.Laws.EntriesVeiled
import Derived.Test.YtjelacjggijmfaaGreatDoorVPureU
namespace Go.Proofs.YtjelacjggijmfaaGreatDoor
open Go.RowKit Go.MapKept Go.ChangeMaps Go.Maps

theorem Bd.tn {B b : Nat} {acc : List UInt8} {W Z : World} {p : Nat → Prop} (h : Bd B b acc W) (ht : Tn p W Z) (hp : ∀ k, B ≤ k → ¬ p k) : Bd B b acc Z := by
  have hB : B ≤ b := by rcases h.bld with h | h <;> exact h.1
  have aux : ∀ q, Lib.BuilderAtF 319 5 B b q (Lib.byteCells acc) W → Lib.BuilderAtF 319 5 B b q (Lib.byteCells acc) Z := by
    rintro q ⟨hB, v, hb, ⟨hl, hr⟩, hne⟩
    refine ⟨hB, v, (ht.block b (Array.getElem?_eq_some_iff.1 hb).1 (hp b hB)).trans hb, ⟨hl, ?_⟩, hne⟩
    rcases hr with hr | ⟨g, cap, cur, fz, hv, hBg, hg, rest⟩
    · exact .inl hr
    · exact .inr ⟨g, cap, cur, fz, hv, hBg, (ht.block g (Array.getElem?_eq_some_iff.1 hg).1 (hp g hBg)).trans hg, rest⟩
  refine ⟨?_, fun e => ?_⟩
  · rcases h.bld with h | h
    · exact .inl (aux _ h)
    · exact .inr (aux _ h)
  · obtain ⟨q, hq⟩ := h.nil e
    exact ⟨q, (ht.block b (Array.getElem?_eq_some_iff.1 hq).1 (hp b hB)).trans hq⟩
/-- All the closures' blocks lie below B. -/
structure CelLt (c : Cel) (B : Nat) : Prop where
  n : c.n < B
  s : c.s < B
  r : c.r < B
  m : c.m < B
  e : c.e < B
  l : c.l < B
  f : c.f < B
  nm : c.nm < B
  mm : c.mm < B
section
variable {c : Cel} {sv : Value} {L : NL} {sg : UInt8 → Option Cp.Bs} {SP : World → Prop} {d k : Nat} {mk : List Cp.Bs} {W Z : World}
theorem ExM.lt (h : ExM c sv L k mk W) : CelLt c W.heap.size := ⟨h.nbox.lt, h.sbox.lt, h.rbox.lt, h.mbox.lt, h.ebox.lt, h.lbox.lt, h.fbox.lt, h.names.lt, h.marks.lt⟩
theorem ExM.below {B : Nat} (h : ExM c sv L k mk W) (hb : Below B W Z) (hc : CelLt c B) : ExM c sv L k mk Z := by
  refine ⟨h.nbox.below hb hc.n, h.sbox.below hb hc.s, h.rbox.below hb hc.r, h.mbox.below hb hc.m, h.ebox.below hb hc.e, h.lbox.below hb hc.l, h.fbox.below hb hc.f, h.names.below hb hc.nm, h.marks.below hb hc.mm, h.ne, ?_, h.gr⟩
  obtain ⟨m, hm⟩ := h.glob
  exact ⟨m, (hb.cell (p := ⟨0, 0, none⟩) (Nat.lt_trans h.gr hc.r)).trans hm⟩
theorem Tn.low {p : Nat → Prop} {A : World} (h : Tn p A W) (hb : Below A.heap.size W Z) : Tn p A Z := ⟨hb.os.trans h.os, hb.tape.trans h.tape, hb.output.trans h.output, Nat.le_trans h.size hb.size, fun k hk hp => (hb.block k hk).trans (h.block k hk hp)⟩
theorem told_len (acc : Cp.Bs) (k : Nat) : (Cp.toldB acc k).txt.length ≤ 2000 ∧ (Cp.toldB acc k).refs = k := by
  unfold Cp.toldB
  split
  · exact ⟨by simp, rfl⟩
  · exact ⟨by show acc.length ≤ 2000; omega, rfl⟩
/-- Between two signs. -/
structure ExL (c : Cel) (sv : Value) (L : NL) (sg : UInt8 → Option Cp.Bs) (mk : List Cp.Bs) (refs : Nat) (text : Cp.Bs) (W : World) (acc t : Cp.Bs) (k : Nat) (wr : World) : Prop where
  bd : Bd W.heap.size W.heap.size acc wr
  ex : ExM c sv L k mk wr
  tn : ExT c W wr
  go : ∀ r, Cp.Exp (nOf L) sg mk k acc t r → Cp.Exp (nOf L) sg mk refs [] text r
set_option maxHeartbeats 4000000 in
set_option maxRecDepth 100000 in
theorem exp_step (HE : ExpC c sv L sg SP d) (hSg : Sgn c sv sg SP) (hL : Short L) : ExpC c sv L sg SP (d + 1) := by
  intro W refs mk text h hSP hd hr hmk htl
  have hlt := h.lt
  have hb0 : Below W.heap.size W (W.alloc (.cells #[.pointer none, .slice none 0 0] 319)) := (Below.refl _ W).alloc (Nat.le_refl _) _
  have HL0 : Hid (ExL c sv L sg mk refs text W [] text refs (W.alloc (.cells #[.pointer none, .slice none 0 0] 319))) := ⟨Bd.fresh W, h.later hb0, Tn.later hb0, fun r hx => hx⟩
  have HLT := hide hlt
  clear h hb0 hlt
  go_enter Tryz.func195, Tryz.ntmps195
  go_wp2_with fail
  go_loopw [0] (fun tv wr => ∃ (t acc : Cp.Bs) (k : Nat), tv = .string ⟨t.toArray⟩ ∧ t.length ≤ text.length ∧ k ≤ 300 ∧ refs ≤ k ∧ Hid (ExL c sv L sg mk refs text W acc t k wr)) (fun tv _ => strLen tv)
  case atStart => exact ⟨text, [], refs, rfl, Nat.le_refl _, hr, Nat.le_refl _, HL0⟩
  case round =>
    clear HL0
    obtain ⟨t, acc, k, rfl, htl2, hk3, hrk, HM⟩ := hrel
    have hbw := (unhide HM).bd.lt
    have hsz := (unhide HM).tn.size
    have hsl : (⟨t.toArray⟩ : ByteArray).size = t.length := size_mk t
    have htt : (⟨t.toArray⟩ : ByteArray).data.toList = t := mk_list t
    have CC := hide (lCut 36 ⟨t.toArray⟩ wr (by omega) (unhide HM).ex.glob)
    rw [htt] at CC
    have hbl : (Mk.before 36 t).length ≤ t.length := by unfold Mk.before; exact (List.takeWhile_prefix _).length_le
    have hal := after_len 36 t
    -- a part is added
    have CA : Hid (∀ (W' : World) (acc' part : Cp.Bs), Bd W.heap.size W.heap.size acc' W' → part.length ≤ 1073741824 → Calls Tryz.prog 196 #[.pointer (some ⟨W.heap.size, 0, none⟩), .string ⟨List.toArray part⟩] W' fun e w' => e = .returned (.tuple #[]) ∧ Bd W.heap.size W.heap.size (Cp.addB acc' part) w' ∧ Below W.heap.size W' w') := fun W' acc' part hb hp => by
      have hlt := hb.lt
      refine (bdAdd W.heap.size W.heap.size acc' ⟨List.toArray part⟩ W' hb (by rw [size_mk]; omega) (by omega)).mono ?_
      rintro e w' ⟨rfl, h1, h2, _⟩
      rw [mk_list] at h1
      exact ⟨rfl, h1, h2⟩
    cases hhas : Mk.has 36 t with
    | false =>
      rw [hhas] at CC
      have CT := hide (fun (W' : World) (acc' : Cp.Bs) (hb : Bd W.heap.size W.heap.size acc' W') => bdTold W.heap.size W.heap.size acc' k W' hb)
      go_wp2_with (first
        | (go_at_call 160; refine (unhide CC).mono ?_; rintro e w1 ⟨rfl, hb1⟩; have HB1 := hide ((unhide HM).bd.later hb1); have HE1 := hide ((unhide HM).ex.later hb1); have HT1 := hide ((unhide HM).tn.trans (Tn.later hb1)); clear hb1)
        | (go_at_call 196; refine (unhide CA _ acc (Mk.before 36 t) (unhide HB1) (by omega)).mono ?_; rintro e w2 ⟨rfl, h2, hb2⟩; have HB2 := hide h2; have HE2 := hide ((unhide HE1).below hb2 (unhide HLT)); have HT2 := hide ((unhide HT1).low hb2); clear h2 hb2)
        | (go_at_call 197; refine (unhide CT _ _ (unhide HB2)).mono ?_; rintro e w3 ⟨rfl, hb3⟩; have HE3 := hide ((unhide HE2).below hb3 (unhide HLT)); have HT3 := hide ((unhide HT2).low hb3); clear hb3)
        | fail)
      go_ret2
      obtain ⟨q1, q2⟩ := told_len (Cp.addB acc (Mk.before 36 t)) k
      exact ⟨_, (unhide HM).go _ (Cp.Exp.free hhas), rfl, q1, by omega, fun _ => by omega, by omega, by rw [q2]; exact unhide HE3, unhide HT3⟩
    | true =>
      rw [hhas] at CC
      have CS : Hid (∀ W', ExM c sv L k mk W' → SP W' → Calls Tryz.prog 198 #[.string ⟨(Mk.after 36 t).toArray⟩, sv, .func (.func 194) #[] #[.pointer (some ⟨c.r, 0, none⟩), .pointer (some ⟨c.n, 0, none⟩), .pointer (some ⟨c.l, 0, none⟩)]] W' fun e W'' => ∃ (part rest : Cp.Bs) (er refs' : Nat), e = .returned (sgV part rest er) ∧ SignR L sg mk k (Mk.after 36 t) part rest er refs' ∧ ExM c sv L refs' mk W'' ∧ ExT c W' W'') := fun W' h1 h2 => by
        have := sign_any HE hSg hL k mk ⟨(Mk.after 36 t).toArray⟩ W' h1 h2 (by omega) hk3 (by omega) (by rw [size_mk]; omega)
        rw [mk_list] at this
        exact this
      have hSPw : Hid (∀ W', ExT c W W' → SP W') := fun W' ht => hSg.keep _ _ hSP ht
      go_wp2_with (first
        | (go_at_call 160; refine (unhide CC).mono ?_; rintro e w1 ⟨rfl, hb1⟩; have HB1 := hide ((unhide HM).bd.later hb1); have HE1 := hide ((unhide HM).ex.later hb1); have HT1 := hide ((unhide HM).tn.trans (Tn.later hb1)); clear hb1)
        | (go_at_call_of 196 (Mk.before 36 t); refine (unhide CA _ acc (Mk.before 36 t) (unhide HB1) (by omega)).mono ?_; rintro e w2 ⟨rfl, h2, hb2⟩; have HB2 := hide h2; have HE2 := hide ((unhide HE1).below hb2 (unhide HLT)); have HT2 := hide ((unhide HT1).low hb2); have s0 := (unhide HE2).sbox.cell? (i := 0) rfl; have f0 := (unhide HE2).fbox.cell? (i := 0) rfl; clear h2 hb2)
        | (go_at_call 198; refine (unhide CS _ (unhide HE2) (unhide hSPw _ (unhide HT2))).mono ?_; rintro e w3 ⟨part, rest, er, refs', rfl, hsr, h3, ht3⟩; unfold sgV; have HB3 := hide ((unhide HB2).tn ht3 (fun q hq e => by have h7 := (unhide HLT).r; have h8 := (unhide HLT).mm; omega)); have HE3 := hide h3; have HT3 := hide ((unhide HT2).trans ht3); have HSR := hide hsr; clear h3 ht3 hsr)
        | (go_at_call_of 196 part; refine (unhide CA _ _ part (unhide HB3) (unhide HSR).part_len).mono ?_; rintro e w4 ⟨rfl, h4, hb4⟩; have HB4 := hide h4; have HE4 := hide ((unhide HE3).below hb4 (unhide HLT)); have HT4 := hide ((unhide HT3).low hb4); clear h4 hb4)
        | fail)
      · have her : er ≠ 0 := by first | assumption | (rename_i hz; simpa using hz) | (rename_i hz; omega)
        go_ret2
        exact ⟨⟨[], er, refs'⟩, (unhide HM).go _ ((unhide HSR).bad acc t hhas rfl her), rfl, by simp, (unhide HSR).refs_le, fun e => absurd e her, Nat.le_trans hrk (unhide HSR).refs_ge, unhide HE3, unhide HT3⟩
      · have her : er = 0 := by first | assumption | (rename_i hz; simpa using hz) | (rename_i hz; omega)
        have hrl := (unhide HSR).rest_len her
        have hge := (unhide HSR).refs_ge
        go_roundw
        case rel => exact ⟨rest, _, refs', rfl, by omega, (unhide HSR).refs_ok her, by omega, unhide HB4, unhide HE4, unhide HT4, fun r hx => (unhide HM).go _ ((unhide HSR).good acc t hhas rfl her r hx)⟩
        case measure =>
          show (⟨rest.toArray⟩ : ByteArray).size < (⟨t.toArray⟩ : ByteArray).size
          rw [size_mk, size_mk]
          omega
end
end Go.Proofs.YtjelacjggijmfaaGreatDoor
namespace Go.Proofs.YtjelacjggijmfaaGreatDoor
open Go.RowKit Go.MapKept Go.ChangeMaps Go.Maps

/-- Some blocks more. -/
def pushes (W : World) (os : List Obj) : World := os.foldl World.alloc W
theorem pushes_below : ∀ (os : List Obj) (W : World), Below W.heap.size W (pushes W os)
  | [], W => Below.refl _ W
  | o :: r, W => ((Below.refl _ W).alloc (Nat.le_refl _) o).trans ((pushes_below r (W.alloc o)).mono (by rw [World.size_alloc]; omega))
theorem pushes_get : ∀ (os : List Obj) (W : World) (i : Nat), i < os.length → (pushes W os).heap[W.heap.size + i]? = os[i]?
  | [], _, _, h => by simp at h
  | o :: r, W, 0, _ => by
    show (pushes (W.alloc o) r).heap[W.heap.size]? = some o
    have hb : Below (W.alloc o).heap.size (W.alloc o) (pushes (W.alloc o) r) := pushes_below r _
    rw [hb.block W.heap.size (by rw [World.size_alloc]; omega)]
    show (W.heap.push o)[W.heap.size]? = some o
    simp
  | o :: r, W, i + 1, h => by
    have := pushes_get r (W.alloc o) i (by simpa using h)
    rw [World.size_alloc] at this
    rw [show W.heap.size + (i + 1) = W.heap.size + 1 + i by omega]
    exact this
theorem exp_all {c : Cel} {sv : Value} {L : NL} {sg : UInt8 → Option Cp.Bs} {SP : World → Prop} (hSg : Sgn c sv sg SP) (hL : Short L) : ∀ d, ExpC c sv L sg SP d
  | 0 => fun W refs mk text _ _ hd hr _ _ => by omega
  | d + 1 => exp_step (exp_all hSg hL d) hSg hL
def celOf (B nm : Nat) : Cel := ⟨B, B + 1, B + 2, B + 4, B + 5, B + 6, B + 7, nm, B + 3⟩
def fn3 (B : Nat) : Value := .func (.func 195) #[] #[.pointer (some ⟨B + 1, 0, none⟩), .pointer (some ⟨B + 7, 0, none⟩)]
def fn1 (B : Nat) : Value := .func (.func 192) #[] #[.pointer (some ⟨B + 4, 0, none⟩), .pointer (some ⟨B + 5, 0, none⟩), .pointer (some ⟨B, 0, none⟩)]
def fn2 (B : Nat) : Value := .func (.func 194) #[] #[.pointer (some ⟨B + 2, 0, none⟩), .pointer (some ⟨B, 0, none⟩), .pointer (some ⟨B + 6, 0, none⟩)]
set_option maxHeartbeats 2000000 in
set_option maxRecDepth 100000 in
theorem expansion_any (nm : Nat) (sv : Value) (L : NL) (W : World) (g : Fn) (caps : Array Value) (hsv : sv = .func g #[] caps) (hN : SMap W nm (nEnts L)) (hg : Glob W) :
    Calls Tryz.prog 146 #[.map (some nm), sv] W fun e W' => e = .returned (fn3 W.heap.size) ∧ ExM (celOf W.heap.size nm) sv L 0 [] W' ∧ Below W.heap.size W W' := by
  have hmf : ∀ (fn : Fn) (first cap : Array Value) (w : World), (Instr.makeFunc fn first cap).run Tryz.prog w = .ok (.func fn first cap) w := fun _ _ _ _ => rfl
  have hmm := @run_makeMap Tryz.prog
  subst hsv
  go_enter Tryz.func146, Tryz.ntmps146
  go_wp2_with fail
  go_ret
  have hb := pushes_below [.cells #[.map (some nm)] 137, .cells #[.func g #[] caps] 199, .cells #[.int .i64 0] 3, .map #[] 0, .cells #[.map (some (W.heap.size + 3))] 140, .cells #[fn3 W.heap.size] 278, .cells #[fn1 W.heap.size] 278, .cells #[fn2 W.heap.size] 278] W
  have hget := pushes_get [.cells #[.map (some nm)] 137, .cells #[.func g #[] caps] 199, .cells #[.int .i64 0] 3, .map #[] 0, .cells #[.map (some (W.heap.size + 3))] 140, .cells #[fn3 W.heap.size] 278, .cells #[fn1 W.heap.size] 278, .cells #[fn2 W.heap.size] 278] W
  have hnlt := hN.lt
  have hgl : 0 < W.heap.size := by
    obtain ⟨m, hm⟩ := hg
    exact World.block_lt_of_cell? W _ hm
  refine ⟨rfl, ⟨hget 0 (by simp), hget 1 (by simp), hget 2 (by simp), hget 4 (by simp), hget 5 (by simp), hget 6 (by simp), hget 7 (by simp), hN.later hb, ⟨#[], 0, hget 3 (by simp), stamped_empty 0, Nat.zero_le _, rfl⟩, ?_, hg.later hb, ?_⟩, hb⟩
  · show nm ≠ W.heap.size + 3
    omega
  · show 0 < W.heap.size + 2
    omega
set_option maxHeartbeats 2000000 in
set_option maxRecDepth 100000 in
/-- Expand: what a text expands to, where these signs hold. -/
theorem expand_any (nm : Nat) (sv : Value) (L : NL) (sg : UInt8 → Option Cp.Bs) (SP : World → Prop) (text : Cp.Bs) (W : World) (hSg : ∀ c : Cel, W.heap.size ≤ c.r → W.heap.size ≤ c.mm → Sgn c sv sg SP) (hSP : ∀ W', Below W.heap.size W W' → SP W') (hL : Short L) (hN : SMap W nm (nEnts L)) (hg : Glob W) (ht : text.length ≤ 1073741824) :
    Calls Tryz.prog 94 #[.map (some nm), .string ⟨text.toArray⟩, sv] W fun e W' => ∃ r : Cp.Er, Cp.Exp (nOf L) sg [] 0 [] text r ∧ e = .returned (erV r) ∧ r.txt.length ≤ 2000 ∧ Below W.heap.size W W' := by
  have hS := hSg (celOf W.heap.size nm) (by show W.heap.size ≤ W.heap.size + 2; omega) (by show W.heap.size ≤ W.heap.size + 3; omega)
  obtain ⟨g, caps, hsv, -⟩ := hS.f
  subst hsv
  have C1 := hide (expansion_any nm (.func (.func g) #[] caps) L W _ caps rfl hN hg)
  have C2 : Hid (∀ W', ExM (celOf W.heap.size nm) (.func (.func g) #[] caps) L 0 [] W' → SP W' → Calls Tryz.prog 195 #[.string ⟨text.toArray⟩, .pointer (some ⟨W.heap.size + 1, 0, none⟩), .pointer (some ⟨W.heap.size + 7, 0, none⟩)] W' fun e W'' => ∃ r : Cp.Er, Cp.Exp (nOf L) sg [] 0 [] text r ∧ e = .returned (erV r) ∧ r.txt.length ≤ 2000 ∧ ExT (celOf W.heap.size nm) W' W'') := fun W' h1 h2 => by
    refine (exp_all hS hL 301 W' 0 [] text h1 h2 (by omega) (by omega) (by simp) ht).mono ?_
    rintro e W'' ⟨r, q1, q2, q3, _, _, _, _, q8⟩
    exact ⟨r, q1, q2, q3, q8⟩
  have HSP := hide hSP
  clear hSg hSP hS hN hg
  go_enter Tryz.func94, Tryz.ntmps94
  go_wp2_with (first
    | (go_at_call 146; refine (unhide C1).mono ?_; rintro e w1 ⟨rfl, h1, hb1⟩; unfold fn3; have HE1 := hide h1; have HB1 := hide hb1; clear h1 hb1)
    | (go_at_call 195; refine (unhide C2 _ (unhide HE1) (unhide HSP _ (unhide HB1))).mono ?_; rintro e w2 ⟨r, q1, rfl, q3, q4⟩; unfold erV; have HQ1 := hide q1; have HQ4 := hide q4; clear q1 q4)
    | fail)
  go_ret2
  have hsz := (unhide HB1).size
  exact ⟨r, unhide HQ1, rfl, q3, (unhide HB1).trans ((unhide HQ4).below hsz (fun k e => by
    rcases e with e | e
    · have e' : k = W.heap.size + 2 := e
      omega
    · have e' : k = W.heap.size + 3 := e
      omega))⟩
set_option maxRecDepth 100000 in
/-- No sign stands for something. -/
theorem noSigns (c : Cel) : Sgn c (.func (.func 225) #[] #[]) (fun _ => none) (fun _ => True) := by
  refine ⟨⟨_, _, rfl, enters_of Tryz.func225 (by kernel_rfl) rfl, fun W _ ch => ?_⟩, fun _ _ _ _ => trivial⟩
  show Calls Tryz.prog 225 #[.int .u8 ch.toNat] W _
  go_enter Tryz.func225, Tryz.ntmps225
  go_wp2_with fail
  go_ret2
  exact ⟨⟨[], false, rfl, rfl, by simp⟩, Below.refl _ _⟩
end Go.Proofs.YtjelacjggijmfaaGreatDoor
namespace Go.Proofs.YtjelacjggijmfaaGreatDoor
open Go.RowKit

set_option maxHeartbeats 400000 in
theorem closed_any (s : ByteArray) (w : World) (hs : s.size ≤ 4294967200) :
    Calls Tryz.prog 76 #[.string s] w fun e w' => e = .returned (.string ⟨(Mk.closed s.data.toList).toArray⟩) ∧ w = w' := by
  cases h : Mk.endsBack s.data.toList with
  | true =>
    go_enter Tryz.func76, Tryz.ntmps76
    go_wp2_with (go_at_call 123; refine (lHasSuffix _ _ (by omega)).mono ?_; rintro e w1 ⟨rfl, rfl⟩; rw [h])
    go_ret
    refine ⟨ret_str (mk_eq ?_), rfl⟩
    simp [Mk.closed, h]
  | false =>
    go_enter Tryz.func76, Tryz.ntmps76
    go_wp2_with (go_at_call 123; refine (lHasSuffix _ _ (by omega)).mono ?_; rintro e w1 ⟨rfl, rfl⟩; rw [h])
    go_ret
    refine ⟨ret_str (mk_eq ?_), rfl⟩
    simp [Mk.closed, h]
set_option maxHeartbeats 400000 in
theorem sides_any (a b c : ByteArray) (w : World) (hs : a.size + b.size + c.size ≤ 4294967296) :
    Calls Tryz.prog 125 #[.string a, .string b, .string c] w fun e w' => e = .returned (.string ⟨(Mk.sides a.data.toList b.data.toList c.data.toList).toArray⟩) ∧ w = w' := by
  cases h0 : c.toList.isEmpty with
  | true =>
    have HE := hide (empty_of h0)
    go_enter Tryz.func125, Tryz.ntmps125
    go_wp2
    go_ret
    refine ⟨ret_str (mk_eq ?_), rfl⟩
    rw [unhide HE]
    simp [Mk.sides]
  | false =>
    go_enter Tryz.func125, Tryz.ntmps125
    go_wp2
    go_ret
    refine ⟨ret_str (mk_eq ?_), rfl⟩
    have h1 : c.data.toList.isEmpty = false := by rw [← Lib.toList_data]; exact h0
    simp only [Mk.sides, h1, data_app]
    simp

theorem blkI_nat (n : Nat) : blkI n = Mk.blkN n := by
  rw [Bool.eq_iff_iff]; simp [blkI, Mk.blkN]; omega
theorem isBlank_pred (w : World) : PredAt Tryz.prog 212 #[] encR Mk.blkN w := fun W x _ => by
  refine (isBlank_any x W).mono ?_
  rintro e w' ⟨rfl, rfl⟩
  exact ⟨ret_bool (blkI_nat x), 0, rfl⟩
set_option maxRecDepth 100000 in
theorem words_any (s : ByteArray) (w : World) (hs : s.size ≤ 4294967296) :
    Calls Tryz.prog 166 #[.string s] w fun e w' => ∃ A, e = .returned (.slice (some ⟨A, 0, none⟩) (Lib.goFieldsP Mk.blkN s).length (Lib.goFieldsP Mk.blkN s).length) ∧
      w'.ownsRow w.heap.size 9 1 (.slice (some ⟨A, 0, none⟩) (Lib.goFieldsP Mk.blkN s).length (Lib.goFieldsP Mk.blkN s).length) (Lib.goFieldsP Mk.blkN s).length ((Lib.goFieldsP Mk.blkN s).map Value.string) ∧ Below w.heap.size w w' := by
  have hff := Any.strings_FieldsFunc Tryz.lay229 212 #[] (enters_of Tryz.func212 (by kernel_rfl) rfl) Mk.blkN s w hs (isBlank_pred w) (by kernel_rfl) (by kernel_rfl)
  go_enter Tryz.func166, Tryz.ntmps166
  go_wp2_with (go_at_call 216; refine hff.mono ?_; rintro e w1 ⟨A, rfl, -, h2, h3⟩)
  go_ret
  exact ⟨A, rfl, h2, h3⟩

theorem row_cells {w : World} {base e n A cap : Nat} {xs : List Value} (h : w.ownsRow base e 1 (.slice (some ⟨A, 0, none⟩) n cap) n xs) :
    A < w.heap.size ∧ ∀ (j : Nat) x, xs[j]? = some x → w.cell? ⟨A, 0 + j, none⟩ = some x := by
  obtain ⟨hl, ⟨h1, _⟩ | ⟨g, cap', cur, hv, _, hg, hn, _, hc, ht⟩⟩ := h
  · cases h1
  · cases hv
    refine ⟨(Array.getElem?_eq_some_iff.1 hg).1, fun j x hj => ?_⟩
    have hjl : j < n := by have := (List.getElem?_eq_some_iff.1 hj).1; omega
    rw [← ht, List.getElem?_take, if_pos (by omega)] at hj
    simp only [Array.getElem?_toList] at hj
    simp [World.cell?, hg, hj]
theorem join_words (s : ByteArray) : Lib.join ((Lib.goFieldsP Mk.blkN s).map (·.data.toList)) [32] = Mk.oneBlank s.data.toList := by
  rw [Mk.goFields_words]; rfl
set_option maxRecDepth 100000 in
set_option maxHeartbeats 400000 in
theorem oneBlank_any (s : ByteArray) (w : World) (hs : s.size ≤ 4294967200) :
    Calls Tryz.prog 124 #[.string s] w fun e w' => e = .returned (.string ⟨(Mk.oneBlank s.data.toList).toArray⟩) ∧ Below w.heap.size w w' := by
  have hcount : (Lib.goFieldsP Mk.blkN s).length ≤ 4294967200 := by
    have h1 := Mk.words_count s.data.toList
    rw [← Mk.goFields_words, List.length_map] at h1
    have := Lib.size_eq s
    omega
  have hlen : (Lib.join ((Lib.goFieldsP Mk.blkN s).map (·.data.toList)) [32]).length ≤ 140737488355328 := by
    have h1 := Mk.oneBlank_le s.data.toList
    rw [join_words]
    have := Lib.size_eq s
    omega
  have HJ := hide (join_words s)
  have HW := hide (words_any s w (by omega))
  have HL := hide hlen
  clear hlen
  generalize Lib.goFieldsP Mk.blkN s = ws at *
  go_enter Tryz.func124, Tryz.ntmps124
  go_wp2_with fail
  refine (unhide HW).mono ?_
  rintro e w1 ⟨A, rfl, h2, h3⟩
  obtain ⟨hA, hcells⟩ := row_cells h2
  have hj := Any.strings_Join Tryz.lay156 Tryz.layX A 0 ws.length ws ⟨#[32]⟩ w1 (fun j x hx => hcells j _ (by rw [List.getElem?_map, hx]; rfl)) hA (by omega) (Nat.le_refl _) (unhide HL)
  have HJ2 := hide hj
  clear hj hcells h2
  go_wp2_with fail
  refine (unhide HJ2).mono ?_
  rintro e w2 ⟨rfl, hb⟩
  go_wp2_with fail
  go_ret
  refine ⟨ret_str ?_, h3.trans (hb.mono h3.size)⟩
  rw [← unhide HJ]

set_option maxHeartbeats 1000000 in
theorem written_any (l : Mk.Ln) (w : World) (hl : l.left.length ≤ 1073741824) (hr : l.right.length ≤ 1073741824) (hk : l.kind ≤ 5) :
    Calls Tryz.prog 77 #[lnV l] w fun e w' => e = .returned (.string ⟨(Mk.written l).toArray⟩) ∧ Below w.heap.size w w' := by
  obtain ⟨n, k, L, R⟩ := l
  simp only at hl hr hk
  unfold lnV
  simp only
  have hLs : (⟨L.toArray⟩ : ByteArray).size = L.length := size_mk L
  have hRs : (⟨R.toArray⟩ : ByteArray).size = R.length := size_mk R
  by_cases h1 : k = 1
  · subst h1
    have HW : Hid (Mk.written ⟨n, 1, L, R⟩ = [9] ++ R) := rfl
    go_enter Tryz.func77, Tryz.ntmps77
    go_wp2_with fail
    go_ret
    refine ⟨ret_str (mk_eq ?_), (Below.refl _ w).alloc (Nat.le_refl _) _⟩
    rw [unhide HW]; simp
  by_cases h2 : k = 2
  · subst h2
    have HW : Hid (Mk.written ⟨n, 2, L, R⟩ = Mk.incl ++ [32] ++ Mk.oneBlank R) := rfl
    have ho := Mk.oneBlank_le R
    have hos : (⟨(Mk.oneBlank R).toArray⟩ : ByteArray).size = (Mk.oneBlank R).length := size_mk _
    go_enter Tryz.func77, Tryz.ntmps77
    go_wp2_with fail
    refine (oneBlank_any ⟨R.toArray⟩ _ (by omega)).mono ?_
    rintro e w1 ⟨rfl, hb⟩
    simp only
    generalize Mk.oneBlank R = q at *
    go_wp2_with fail
    go_ret
    refine ⟨ret_str (mk_eq ?_), below_new hb⟩
    rw [unhide HW]; simp [Mk.incl]
  by_cases h3 : k = 3
  · subst h3
    have HW : Hid (Mk.written ⟨n, 3, L, R⟩ = Mk.sides L [58, 61] R) := rfl
    go_enter Tryz.func77, Tryz.ntmps77
    go_wp2_with fail
    refine (sides_any ⟨L.toArray⟩ ⟨#[58, 61]⟩ ⟨R.toArray⟩ _ (by rw [hLs, hRs]; show _ + 2 + _ ≤ _; omega)).mono ?_
    rintro e w1 ⟨rfl, rfl⟩
    go_wp2_with fail
    go_ret
    refine ⟨ret_str ?_, (Below.refl _ w).alloc (Nat.le_refl _) _⟩
    rw [unhide HW]
  by_cases h4 : k = 4
  · subst h4
    have HW : Hid (Mk.written ⟨n, 4, L, R⟩ = Mk.sides L [61] R) := rfl
    go_enter Tryz.func77, Tryz.ntmps77
    go_wp2_with fail
    refine (sides_any ⟨L.toArray⟩ ⟨#[61]⟩ ⟨R.toArray⟩ _ (by rw [hLs, hRs]; show _ + 1 + _ ≤ _; omega)).mono ?_
    rintro e w1 ⟨rfl, rfl⟩
    go_wp2_with fail
    go_ret
    refine ⟨ret_str ?_, (Below.refl _ w).alloc (Nat.le_refl _) _⟩
    rw [unhide HW]
  have b1 : ((k : Int) == 1) = false := by rw [beq_eq_false_iff_ne]; omega
  have b2 : ((k : Int) == 2) = false := by rw [beq_eq_false_iff_ne]; omega
  have b3 : ((k : Int) == 3) = false := by rw [beq_eq_false_iff_ne]; omega
  have b4 : ((k : Int) == 4) = false := by rw [beq_eq_false_iff_ne]; omega
  have HW : Hid (Mk.written ⟨n, k, L, R⟩ = Mk.sides (Mk.oneBlank L) [58] (Mk.oneBlank R)) := by
    show _ = _
    unfold Mk.written
    simp [h1, h2, h3, h4]
  have hoL := Mk.oneBlank_le L
  have hoR := Mk.oneBlank_le R
  have hsL : (⟨(Mk.oneBlank L).toArray⟩ : ByteArray).size = (Mk.oneBlank L).length := size_mk _
  have hsR : (⟨(Mk.oneBlank R).toArray⟩ : ByteArray).size = (Mk.oneBlank R).length := size_mk _
  clear h1 h2 h3 h4
  have cL := fun W => oneBlank_any ⟨L.toArray⟩ W (by omega)
  have cR := fun W => oneBlank_any ⟨R.toArray⟩ W (by omega)
  simp only at cL cR
  generalize Mk.oneBlank L = qL at *
  generalize Mk.oneBlank R = qR at *
  have cS := fun W => sides_any ⟨qL.toArray⟩ ⟨#[58]⟩ ⟨qR.toArray⟩ W (by rw [hsL, hsR]; show _ + 1 + _ ≤ _; omega)
  have CS := hide cS
  clear cS
  have CL := hide cL
  have CR := hide cR
  clear cL cR
  go_enter Tryz.func77, Tryz.ntmps77
  go_wp2_with fail
  go_region_with (first
    | (go_at_call_of 124 ({ data := List.toArray L } : ByteArray); refine (unhide CL _).mono ?_; rintro e w1 ⟨rfl, hb1⟩; obtain ⟨hc1, hf1⟩ := bcell hb1)
    | (go_at_call_of 124 ({ data := List.toArray R } : ByteArray); refine (unhide CR _).mono ?_; rintro e w2 ⟨rfl, hb2⟩)
    | (go_at_call 125; refine (unhide CS _).mono ?_; rintro e w3 ⟨rfl, rfl⟩))
  all_goals go_wp2_with fail
  all_goals go_ret
  all_goals refine ⟨ret_str ?_, ?_⟩
  all_goals first
    | (show (⟨(Mk.sides qL [58] qR).toArray⟩ : ByteArray) = _; rw [unhide HW])
    | exact (((Below.refl _ w).alloc (Nat.le_refl _) _).drew.trans (hb1.mono (by simp))).trans (hb2.mono (by have := hb1.size; simp at this; omega))
end Go.Proofs.YtjelacjggijmfaaGreatDoor
