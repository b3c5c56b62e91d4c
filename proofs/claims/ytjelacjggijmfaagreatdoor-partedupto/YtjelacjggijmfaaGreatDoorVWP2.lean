/-
  The program's world: a command is given.
  The program's world: which of two files is newer.
  The program's world: a new one; what is asked of it.
  The program's world: the first effect of each command.
-/
import Derived.Test.YtjelacjggijmfaaGreatDoorVXT
import Derived.Deep.RegionHeld3
import Derived.Deep.DrawnRows
namespace Go.Proofs.YtjelacjggijmfaaGreatDoor
open Go.RowKit Go.MapKept Go.ChangeMaps Go.Maps

theorem mget_put (l : Ents) (k : Pl.Bs) (v : Value) (q : Pl.Bs) : mget (mput l k v) q = if k = q then some v else mget l q := by
  induction l with
  | nil => unfold mput mget; by_cases h : k = q <;> simp [h]
  | cons x r ih =>
    rw [mput]
    by_cases hx : x.1 = k
    · rw [if_pos (by simpa using hx)]
      unfold mget
      by_cases h : k = q
      · simp [h]
      · simp [h, hx]
    · rw [if_neg (by simpa using hx)]
      unfold mget at ih ⊢
      by_cases hq : x.1 = q
      · have : ¬ k = q := fun e => hx (hq.trans e.symm)
        simp [hq, this]
      · rw [List.find?_cons_of_neg (by simpa using hq), ih, List.find?_cons_of_neg (by simpa using hq)]
theorem mput_len (l : Ents) (k : Pl.Bs) (v : Value) : (mput l k v).length ≤ l.length + 1 := by
  induction l with
  | nil => simp [mput]
  | cons x r ih => rw [mput]; split <;> simp; omega
/-- l tells of each command which effect is the first of it -/
def Firsts (ef : List Pl.Eff) (l : Ents) : Prop := l.length ≤ ef.length ∧ ∀ c, mget l c = (ef.findIdx? (fun e => e.cmd == c)).map (fun i => .int .i64 (i : Nat))
theorem Firsts.nil : Firsts [] [] := ⟨Nat.le_refl _, fun c => by simp [mget]⟩
theorem Firsts.old {ef : List Pl.Eff} {l : Ents} (h : Firsts ef l) (e : Pl.Eff) {v : Value} (hm : mget l e.cmd = some v) : Firsts (ef ++ [e]) l := by
  refine ⟨by simp; have := h.1; omega, fun c => ?_⟩
  rw [h.2 c, List.findIdx?_append]
  cases hc : ef.findIdx? (fun e => e.cmd == c) with
  | some i => rfl
  | none =>
    have : ¬ e.cmd = c := fun ec => by
      subst ec
      rw [h.2 e.cmd, hc] at hm; cases hm
    simp [this]
theorem Firsts.new {ef : List Pl.Eff} {l : Ents} (h : Firsts ef l) (e : Pl.Eff) (hm : mget l e.cmd = none) : Firsts (ef ++ [e]) (mput l e.cmd (.int .i64 (ef.length : Nat))) := by
  refine ⟨by have := mput_len l e.cmd (.int .i64 (ef.length : Nat)); have := h.1; simp; omega, fun c => ?_⟩
  rw [mget_put, List.findIdx?_append]
  by_cases hc : e.cmd = c
  · subst hc
    rw [h.2 e.cmd] at hm
    cases hf : ef.findIdx? (fun x => x.cmd == e.cmd) with
    | some i => rw [hf] at hm; cases hm
    | none => simp
  · rw [if_neg hc, h.2 c]
    cases hf : ef.findIdx? (fun x => x.cmd == c) with
    | some i => rfl
    | none => simp [hc]
theorem zeroInt (w : World) : (zeroValue 3).run Tryz.prog w = .ok (.int .i64 0) w := by kernel_rfl
set_option maxHeartbeats 2000000 in
set_option maxRecDepth 20000 in
theorem firstEffects_any (ef : List Pl.Eff) (a : Option Addr) (cap L b o : Nat) (w : World) (ha : 0 < ef.length → a = some ⟨b, o, none⟩) (hr : RdE w L b o ef) (hL : L ≤ w.heap.size) (hl : ef.length ≤ 8388608) :
    Calls Tryz.prog 86 #[.slice a ef.length cap] w fun e w' => e = .returned (.map (some w.heap.size)) ∧ (∃ l, SMap w' w.heap.size l ∧ Firsts ef l) ∧ Below w.heap.size w w' := by
  have HR := hide hr
  have HAA := hide ha
  have HS0 := hide (SMap.made w)
  have HB0 := hide ((Below.refl _ w).alloc (Nat.le_refl _) (.map #[] 0))
  have hmm := @run_makeMap Tryz.prog
  clear hr ha
  go_enter Tryz.func86, Tryz.ntmps86
  go_wp2_with fail
  go_loopw [11] (fun i wr => ∃ (k : Nat) (l : Ents), i = .int .i64 k ∧ k ≤ ef.length ∧ Hid (SMap wr w.heap.size l) ∧ Hid (Firsts (ef.take k) l) ∧ Hid (Below w.heap.size w wr)) (fun i _ => ef.length - intN i)
  case atStart => exact ⟨0, [], rfl, Nat.zero_le _, HS0, Firsts.nil, HB0⟩
  case round =>
    clear HS0 HB0
    obtain ⟨k, l, rfl, hkl, HS, HF, HB⟩ := hrel
    by_cases hk : k < ef.length
    · obtain rfl := unhide HAA (by omega)
      have hrd := (unhide HR).below ((unhide HB).mono hL)
      obtain ⟨p0, p2, aw, cw, bw, ow, p1, -⟩ := hrd.2 k hk
      have htk : ef.take (k + 1) = ef.take k ++ [ef[k]] := List.take_succ_eq_append_getElem hk
      have hkk : (ef.take k).length = k := by rw [List.length_take]; omega
      have hll := (unhide HF).1
      rw [hkk] at hll
      have hlt := (unhide HS).lt
      generalize hfk : ef[k] = fk at *
      unfold strV at p0
      have t1 : (k : Int) < (ef.length : Int) := by omega
      have HF1 : Hid (∀ o : Obj, SMap (wr.alloc o) w.heap.size l) := fun o => (unhide HS).later ((Below.refl _ wr).alloc (Nat.le_refl _) o)
      have HB2 : Hid (∀ o : Obj, Below w.heap.size w (wr.alloc o)) := fun o => (unhide HB).alloc (by omega) o
      have hll2 : l.length < maxLen := by unfold maxLen; omega
      cases hmg : mget l fk.cmd with
      | some v =>
        have HNX := hide ((unhide HF).old fk hmg)
        rw [← htk] at HNX
        obtain ⟨i, hi⟩ : ∃ i : Nat, v = .int .i64 i := by
          have := (unhide HF).2 fk.cmd
          rw [hmg] at this
          cases hf : (ef.take k).findIdx? (fun e => e.cmd == fk.cmd) with
          | none => rw [hf] at this; cases this
          | some i => rw [hf] at this; exact ⟨i, by simpa using this⟩
        subst hi
        have HMG := hide hmg
        clear hmg hmm hrd hfk htk hkk
        as_aux_lemma =>
          go_wp2_with (first
            | (at_lookup; refine wpList_look_ok_yes _ rfl _ _ 179 rfl 9 3 Tryz.underlying179 Tryz.underlying9 _ (zeroInt _) w.heap.size l rfl (unhide HF1 _) fk.cmd rfl _ (unhide HMG) ?_)
            | fail)
          go_roundw
          case rel => exact ⟨k + 1, l, by go_num, by omega, unhide HF1 _, HNX, unhide HB2 _⟩
          case measure => simp only [intN]; omega
      | none =>
        have HNX := hide ((unhide HF).new fk hmg)
        rw [← htk, hkk] at HNX
        have HMG := hide hmg
        clear hmg hmm hrd hfk htk hkk
        as_aux_lemma =>
          go_wp2_with (first
            | (at_lookup; refine wpList_look_ok_no _ rfl _ _ 179 rfl 9 3 Tryz.underlying179 Tryz.underlying9 _ (zeroInt _) w.heap.size l rfl (unhide HF1 _) fk.cmd rfl (unhide HMG) ?_)
            | (refine wpList_put_s _ rfl _ _ _ 179 rfl 9 3 Tryz.underlying179 Tryz.underlying9 w.heap.size l rfl (unhide HF1 _) hll2 fk.cmd rfl (.int .i64 k) rfl ?_; intro w1 hs1 ht1; have HS1 := hide hs1; have HT1 := hide ((unhide HB2 _).trans (turned_below ht1 (Nat.le_refl _))); clear hs1 ht1)
            | fail)
          go_roundw
          case rel => exact ⟨k + 1, _, by go_num, by omega, HS1, HNX, HT1⟩
          case measure => simp only [intN]; omega
    · have hke : ef.take k = ef := List.take_of_length_le (by omega)
      rw [hke] at HF
      clear hke hmm
      go_wp2_with fail
      go_ret
      exact ⟨rfl, ⟨l, unhide HS, unhide HF⟩, unhide HB⟩
end Go.Proofs.YtjelacjggijmfaaGreatDoor
namespace Go.Proofs.YtjelacjggijmfaaGreatDoor
open Go.RowKit Go.MapKept Go.ChangeMaps Go.Maps
attribute [local go_sem ↓] Go.wp_at_zero Go.wp_at_succ

/-- Nothing has turned but blocks of which p holds. -/
structure Tn (p : Nat → Prop) (w w' : World) : Prop where
  os : w'.os = w.os
  tape : w'.tape = w.tape
  output : w'.output = w.output
  size : w.heap.size ≤ w'.heap.size
  block : ∀ k, k < w.heap.size → ¬ p k → w'.heap[k]? = w.heap[k]?
theorem Tn.refl (p : Nat → Prop) (w : World) : Tn p w w := ⟨rfl, rfl, rfl, Nat.le_refl _, fun _ _ _ => rfl⟩
theorem Tn.trans {p : Nat → Prop} {a b c : World} (h : Tn p a b) (g : Tn p b c) : Tn p a c := ⟨g.os.trans h.os, g.tape.trans h.tape, g.output.trans h.output, Nat.le_trans h.size g.size, fun k hk hp => (g.block k (Nat.lt_of_lt_of_le hk h.size) hp).trans (h.block k hk hp)⟩
theorem Tn.later {p : Nat → Prop} {w w' : World} (h : Below w.heap.size w w') : Tn p w w' := ⟨h.os, h.tape, h.output, h.size, fun k hk _ => h.block k hk⟩
theorem Tn.mono {p q : Nat → Prop} {w w' : World} (h : Tn p w w') (hpq : ∀ k, p k → q k) : Tn q w w' := ⟨h.os, h.tape, h.output, h.size, fun k hk hq => h.block k hk (fun e => hq (hpq k e))⟩
theorem Tn.set {p : Nat → Prop} (w : World) (a : Addr) (u : Value) (hp : p a.block) : Tn p w (w.setCell a u) :=
  have hb := (Below.refl 0 w).setCell (p := a) (Nat.zero_le _) u
  ⟨hb.os, hb.tape, hb.output, hb.size, fun k _ hk => Below.heap_setCell w a u k (fun e => hk (by rw [e]; exact hp))⟩
theorem Tn.grown {p : Nat → Prop} {w w' : World} {r : Option Nat} (h : w.grownBy w' r) (hr : ∀ k, r = some k → p k) : Tn p w w' := ⟨h.os, h.tape, h.output, h.size, fun k hk hp => h.block k hk (fun e => hp (hr k e.symm))⟩
theorem Tn.below {p : Nat → Prop} {w w' : World} (h : Tn p w w') {B : Nat} (hB : B ≤ w.heap.size) (hp : ∀ k, p k → B ≤ k) : Below B w w' := ⟨h.os, h.tape, h.output, h.size, fun k hk => h.block k (by omega) (fun e => by have := hp k e; omega)⟩
theorem Row.lt' {w : World} {b : Nat} {t : TypeId} {vs : List Value} (h : Row w b t vs) : b < w.heap.size := h.lt
theorem Row.tn {p : Nat → Prop} {w w' : World} {b : Nat} {t : TypeId} {vs : List Value} (h : Row w b t vs) (ht : Tn p w w') (hp : ¬ p b) : Row w' b t vs := (ht.block b h.lt hp).trans h
theorem SMap.tn {p : Nat → Prop} {w w' : World} {b : Nat} {l : Ents} (h : SMap w b l) (ht : Tn p w w') (hp : ¬ p b) : SMap w' b l := h.of_block (ht.block b h.lt hp)

structure PW (w : World) (bx bf bi : Nat) (ve : Value) (ef : List Pl.Eff) (fs : List Pl.File) (clock : Int) : Prop where
  row : Row w bx 182 [.map (some bf), ve, .map (some bi), .int .i64 clock]
  files : SMap w bf (fEnts fs)
  first : ∃ l, SMap w bi l ∧ Firsts ef l
  ne1 : bf ≠ bx
  ne2 : bi ≠ bx
  ne3 : bf ≠ bi
section
variable {w w' : World} {bx bf bi : Nat} {ve : Value} {ef : List Pl.Eff} {fs : List Pl.File} {clock : Int}
theorem PW.tn {p : Nat → Prop} (h : PW w bx bf bi ve ef fs clock) (ht : Tn p w w') (h1 : ¬ p bx) (h2 : ¬ p bf) (h3 : ¬ p bi) : PW w' bx bf bi ve ef fs clock := by
  obtain ⟨l, h4, h5⟩ := h.first
  exact ⟨h.row.tn ht h1, h.files.tn ht h2, ⟨l, h4.tn ht h3, h5⟩, h.ne1, h.ne2, h.ne3⟩
theorem PW.later (h : PW w bx bf bi ve ef fs clock) (hb : Below w.heap.size w w') : PW w' bx bf bi ve ef fs clock := h.tn (Tn.later (p := fun _ => False) hb) id id id
end
set_option maxHeartbeats 2000000 in
set_option maxRecDepth 20000 in
theorem worldNew_any (fs : List Pl.File) (ef : List Pl.Eff) (a ae : Option Addr) (cap b o ce L be oe : Nat) (clock : Int) (w : World)
    (ha : 0 < fs.length → a = some ⟨b, o, none⟩) (hr : RdF w b o fs) (hbw : b < w.heap.size) (hfl : fs.length ≤ 8388608)
    (hae : 0 < ef.length → ae = some ⟨be, oe, none⟩) (hE : RdE w L be oe ef) (hL : L ≤ w.heap.size) (hel : ef.length ≤ 8388608) :
    Calls Tryz.prog 61 #[.slice a fs.length cap, .slice ae ef.length ce, .int .i64 clock] w fun e w' => ∃ bx bf bi, e = .returned (.pointer (some ⟨bx, 0, none⟩)) ∧ PW w' bx bf bi (.slice ae ef.length ce) ef (fs.foldl Pl.addF []) clock ∧ Below w.heap.size w w' ∧ w.heap.size ≤ bx ∧ w.heap.size ≤ bf ∧ w.heap.size ≤ bi := by
  have C1 := hide (firstFiles_any fs a cap b o w ha hr hbw hfl)
  have C2 := hide (fun W (hb : Below w.heap.size w W) => firstEffects_any ef ae ce L be oe W hae (hE.below (hb.mono hL)) (Nat.le_trans hL hb.size) hel)
  clear ha hr hae hE
  go_enter Tryz.func61, Tryz.ntmps61
  go_wp2_with (first
    | (go_at_call 85; refine (unhide C1).mono ?_; rintro e w1 ⟨rfl, hs1, hb1⟩; have HS1 := hide hs1; have HB1 := hide hb1; clear hs1 hb1)
    | (go_at_call 86; refine (unhide C2 _ (unhide HB1)).mono ?_; rintro e w2 ⟨rfl, hs2, hb2⟩; have HS2 := hide hs2; have HB2 := hide hb2; clear hs2 hb2)
    | fail)
  go_ret
  have s1 := (unhide HS1).lt
  obtain ⟨l, s2, s3⟩ := unhide HS2
  have s4 := s2.lt
  have hz := (unhide HB1).size
  have hba : Below w2.heap.size w2 (w2.alloc (.cells #[.map (some w.heap.size), .slice ae ef.length ce, .map (some w1.heap.size), .int .i64 clock] 182)) := (Below.refl _ w2).alloc (Nat.le_refl _) _
  refine ⟨w2.heap.size, w.heap.size, w1.heap.size, rfl, ⟨Row.new w2 182 [.map (some w.heap.size), .slice ae ef.length ce, .map (some w1.heap.size), .int .i64 clock], ((unhide HS1).later (unhide HB2)).later hba, ⟨l, s2.later hba, s3⟩, by omega, by omega, by omega⟩, ?_, by omega, Nat.le_refl _, by omega⟩
  exact (unhide HB1).trans (((unhide HB2).mono hz).trans (hba.mono (by omega)))
set_option maxHeartbeats 2000000 in
set_option maxRecDepth 20000 in
theorem has_any (bx bf bi : Nat) (ve : Value) (ef : List Pl.Eff) (fs : List Pl.File) (clock : Int) (nm : Pl.Bs) (w : World) (h : PW w bx bf bi ve ef fs clock) :
    Calls Tryz.prog 174 #[.pointer (some ⟨bx, 0, none⟩), .string ⟨nm.toArray⟩] w fun e w' => e = .returned (.bool (Pl.look fs nm).isSome) ∧ Below w.heap.size w w' := by
  have c0 := h.row.cell 0 (by simp)
  simp only [List.getElem_cons_zero] at c0
  have HF := hide h.files
  cases hl : Pl.look fs nm with
  | some g =>
    have HM : Hid (mget (fEnts fs) nm = some (fileV g)) := by show _ = _; rw [mget_f, hl]; rfl
    clear h hl
    go_enter Tryz.func174, Tryz.ntmps174
    go_wp2_with (first
      | (at_lookup; refine wpList_look_ok_yes _ rfl _ _ 177 rfl 9 65 Tryz.underlying177 Tryz.underlying9 _ (zeroFile _) bf (fEnts fs) rfl (unhide HF) nm rfl (fileV g) (unhide HM) ?_; unfold fileV)
      | fail)
    go_ret
    exact ⟨rfl, (Below.refl _ w).alloc (Nat.le_refl _) _⟩
  | none =>
    have HM : Hid (mget (fEnts fs) nm = none) := by show _ = _; rw [mget_f, hl]; rfl
    clear h hl
    go_enter Tryz.func174, Tryz.ntmps174
    go_wp2_with (first
      | (at_lookup; refine wpList_look_ok_no _ rfl _ _ 177 rfl 9 65 Tryz.underlying177 Tryz.underlying9 _ (zeroFile _) bf (fEnts fs) rfl (unhide HF) nm rfl (unhide HM) ?_)
      | fail)
    go_ret
    exact ⟨rfl, (Below.refl _ w).alloc (Nat.le_refl _) _⟩
theorem wclock_any (bx bf bi : Nat) (ve : Value) (ef : List Pl.Eff) (fs : List Pl.File) (clock : Int) (w : World) (h : PW w bx bf bi ve ef fs clock) :
    Calls Tryz.prog 84 #[.pointer (some ⟨bx, 0, none⟩)] w fun e w' => e = .returned (.int .i64 clock) ∧ w = w' := by
  have c3 := h.row.cell 3 (by simp)
  simp only [List.getElem_cons_zero, List.getElem_cons_succ] at c3
  clear h
  go_enter Tryz.func84, Tryz.ntmps84
  go_wp2_with fail
  go_ret
  exact ⟨rfl, rfl⟩
end Go.Proofs.YtjelacjggijmfaaGreatDoor
namespace Go.Proofs.YtjelacjggijmfaaGreatDoor
open Go.RowKit Go.MapKept Go.ChangeMaps Go.Maps
attribute [local go_sem ↓] Go.wp_at_zero Go.wp_at_succ

set_option maxHeartbeats 4000000 in
set_option maxRecDepth 20000 in
theorem newer_any (bx bf bi : Nat) (ve : Value) (ef : List Pl.Eff) (fs : List Pl.File) (clock : Int) (s t : Pl.Bs) (w : World) (h : PW w bx bf bi ve ef fs clock) :
    Calls Tryz.prog 175 #[.pointer (some ⟨bx, 0, none⟩), .string ⟨s.toArray⟩, .string ⟨t.toArray⟩] w fun e w' => e = .returned (.bool (Pl.newer fs s t)) ∧ Below w.heap.size w w' := by
  have c0 := h.row.cell 0 (by simp)
  simp only [List.getElem_cons_zero] at c0
  have hbx := h.row.lt
  have HF := hide h.files
  have HF1 : Hid (∀ o, SMap (w.alloc o) bf (fEnts fs)) := fun o => h.files.later ((Below.refl _ w).alloc (Nat.le_refl _) o)
  have HB : Hid (∀ o q, Below w.heap.size w ((w.alloc o).alloc q)) := fun o q => ((Below.refl _ w).alloc (Nat.le_refl _) o).alloc (by rw [World.size_alloc]; omega) q
  clear h
  unfold Pl.newer
  cases hl : Pl.look fs s with
  | some g =>
    cases hl' : Pl.look fs t with
    | some g' =>
      have HM : Hid (mget (fEnts fs) s = some (fileV g)) := by show _ = _; rw [mget_f, hl]; rfl
      have HM' : Hid (mget (fEnts fs) t = some (fileV g')) := by show _ = _; rw [mget_f, hl']; rfl
      clear hl hl'
      go_enter Tryz.func175, Tryz.ntmps175
      go_wp2_with (first
        | (at_lookup; refine wpList_look_ok_yes _ rfl (.tmp 15) (.tmp 16) 177 rfl 9 65 Tryz.underlying177 Tryz.underlying9 _ (zeroFile _) bf (fEnts fs) rfl (unhide HF) s rfl (fileV g) (unhide HM) ?_; unfold fileV)
        | (at_lookup; refine wpList_look_ok_yes _ rfl (.tmp 24) (.tmp 25) 177 rfl 9 65 Tryz.underlying177 Tryz.underlying9 _ (zeroFile _) bf (fEnts fs) rfl (unhide HF1 _) t rfl (fileV g') (unhide HM') ?_; unfold fileV)
        | fail)
      all_goals go_ret
      all_goals exact ⟨by first | rfl | (simp only [gt_iff_lt]), unhide HB _ _⟩
    | none =>
      have HM : Hid (mget (fEnts fs) s = some (fileV g)) := by show _ = _; rw [mget_f, hl]; rfl
      have HM' : Hid (mget (fEnts fs) t = none) := by show _ = _; rw [mget_f, hl']; rfl
      clear hl hl'
      go_enter Tryz.func175, Tryz.ntmps175
      go_wp2_with (first
        | (at_lookup; refine wpList_look_ok_yes _ rfl (.tmp 15) (.tmp 16) 177 rfl 9 65 Tryz.underlying177 Tryz.underlying9 _ (zeroFile _) bf (fEnts fs) rfl (unhide HF) s rfl (fileV g) (unhide HM) ?_; unfold fileV)
        | (at_lookup; refine wpList_look_ok_no _ rfl (.tmp 24) (.tmp 25) 177 rfl 9 65 Tryz.underlying177 Tryz.underlying9 _ (zeroFile _) bf (fEnts fs) rfl (unhide HF1 _) t rfl (unhide HM') ?_)
        | fail)
      all_goals go_ret
      all_goals exact ⟨rfl, unhide HB _ _⟩
  | none =>
    cases hl' : Pl.look fs t with
    | some g' =>
      have HM : Hid (mget (fEnts fs) s = none) := by show _ = _; rw [mget_f, hl]; rfl
      have HM' : Hid (mget (fEnts fs) t = some (fileV g')) := by show _ = _; rw [mget_f, hl']; rfl
      clear hl hl'
      go_enter Tryz.func175, Tryz.ntmps175
      go_wp2_with (first
        | (at_lookup; refine wpList_look_ok_no _ rfl (.tmp 15) (.tmp 16) 177 rfl 9 65 Tryz.underlying177 Tryz.underlying9 _ (zeroFile _) bf (fEnts fs) rfl (unhide HF) s rfl (unhide HM) ?_)
        | (at_lookup; refine wpList_look_ok_yes _ rfl (.tmp 24) (.tmp 25) 177 rfl 9 65 Tryz.underlying177 Tryz.underlying9 _ (zeroFile _) bf (fEnts fs) rfl (unhide HF1 _) t rfl (fileV g') (unhide HM') ?_; unfold fileV)
        | fail)
      all_goals go_ret
      all_goals exact ⟨rfl, unhide HB _ _⟩
    | none =>
      have HM : Hid (mget (fEnts fs) s = none) := by show _ = _; rw [mget_f, hl]; rfl
      have HM' : Hid (mget (fEnts fs) t = none) := by show _ = _; rw [mget_f, hl']; rfl
      clear hl hl'
      go_enter Tryz.func175, Tryz.ntmps175
      go_wp2_with (first
        | (at_lookup; refine wpList_look_ok_no _ rfl (.tmp 15) (.tmp 16) 177 rfl 9 65 Tryz.underlying177 Tryz.underlying9 _ (zeroFile _) bf (fEnts fs) rfl (unhide HF) s rfl (unhide HM) ?_)
        | (at_lookup; refine wpList_look_ok_no _ rfl (.tmp 24) (.tmp 25) 177 rfl 9 65 Tryz.underlying177 Tryz.underlying9 _ (zeroFile _) bf (fEnts fs) rfl (unhide HF1 _) t rfl (unhide HM') ?_)
        | fail)
      all_goals go_ret
      all_goals exact ⟨rfl, unhide HB _ _⟩
end Go.Proofs.YtjelacjggijmfaaGreatDoor
namespace Go.Proofs.YtjelacjggijmfaaGreatDoor
open Go.RowKit Go.MapKept Go.ChangeMaps Go.Maps
attribute [local go_sem ↓] Go.wp_at_zero Go.wp_at_succ

theorem first_none {ef : List Pl.Eff} {c : Pl.Bs} (h : ef.findIdx? (fun e => e.cmd == c) = none) : ∀ j (hj : j < ef.length), ef[j].cmd ≠ c := fun j hj e => by
  rw [List.findIdx?_eq_none_iff] at h
  have := h ef[j] (List.getElem_mem hj)
  simp [e] at this
theorem first_some {ef : List Pl.Eff} {c : Pl.Bs} {i : Nat} (h : ef.findIdx? (fun e => e.cmd == c) = some i) : ∃ hi : i < ef.length, (∀ j (hj : j < ef.length), j < i → ef[j].cmd ≠ c) ∧ ef[i].cmd = c := by
  rw [List.findIdx?_eq_some_iff_getElem] at h
  obtain ⟨hi, h1, h2⟩ := h
  exact ⟨hi, fun j hj hji e => by have := h2 j hji; simp [e] at this, by simpa using h1⟩
theorem putF_len (fs : List Pl.File) (f : Pl.File) : (Pl.putF fs f).length ≤ fs.length + 1 := by
  induction fs with
  | nil => simp [Pl.putF]
  | cons g r ih => rw [Pl.putF]; split <;> simp; omega
/-- Giving turns the world's clock and its files. -/
structure GiveP (bx bf bi : Nat) (ve : Value) (ef : List Pl.Eff) (X : Pl.Wd) (w w' : World) : Prop where
  pw : PW w' bx bf bi ve ef X.files X.clock
  tn : Tn (fun k => k = bx ∨ k = bf) w w'
theorem PW.put {bx bf bi : Nat} {ve : Value} {ef : List Pl.Eff} {fs : List Pl.File} {clock : Int} {w w1 : World} {f : Pl.File} (h : PW w bx bf bi ve ef fs clock) (hs : SMap w1 bf (mput (fEnts fs) f.path (fileV f))) (ht : w.mapTurned w1 bf) : PW w1 bx bf bi ve ef (Pl.putF fs f) clock := by
  obtain ⟨l, h4, h5⟩ := h.first
  have hg := ht.grown
  have htn : Tn (fun k => k = bf) w w1 := Tn.grown hg (fun k e => by cases e; rfl)
  rw [mput_f] at hs
  exact ⟨h.row.tn htn (fun e => h.ne1 e.symm), hs, ⟨l, h4.tn htn (fun e => h.ne3 e.symm), h5⟩, h.ne1, h.ne2, h.ne3⟩
theorem PW.tick {bx bf bi : Nat} {ve : Value} {ef : List Pl.Eff} {fs : List Pl.File} {clock : Int} {w : World} (h : PW w bx bf bi ve ef fs clock) (c : Int) : PW (w.setCell ⟨bx, 3, none⟩ (.int .i64 c)) bx bf bi ve ef fs c := by
  obtain ⟨l, h4, h5⟩ := h.first
  exact ⟨h.row.set 3 (.int .i64 c), h.files.setCell h.ne1 _, ⟨l, h4.setCell h.ne2 _, h5⟩, h.ne1, h.ne2, h.ne3⟩
set_option maxHeartbeats 4000000 in
set_option maxRecDepth 20000 in
theorem give_any (c : Pl.Bs) (S : List Pl.Bs) (ef : List Pl.Eff) (L bx bf bi be oe ce : Nat) (ae : Option Addr) (X : Pl.Wd) (w : World) (h : PW w bx bf bi (.slice ae ef.length ce) ef X.files X.clock) (hx : X.exit = 0) (hae : 0 < ef.length → ae = some ⟨be, oe, none⟩)
    (hE : RdE w L be oe ef) (hL1 : L ≤ bx) (hL2 : L ≤ bf) (hfit : Fit S X.files) (hS : S.length ≤ 8388608) (hEs : ∀ e ∈ ef, ∀ f ∈ e.writes, f.path ∈ S) (hel : ef.length ≤ 8388608) (hwl : ∀ e ∈ ef, e.writes.length ≤ 8388608) :
    Calls Tryz.prog 217 #[.pointer (some ⟨bx, 0, none⟩), .string ⟨c.toArray⟩] w fun e w' => e = .returned (.int .i64 (Pl.giveW ef X c).exit) ∧ GiveP bx bf bi (.slice ae ef.length ce) ef (Pl.giveW ef X c) w w' := by
  have c2 := h.row.cell 2 (by simp)
  have c3 := h.row.cell 3 (by simp)
  have f3 := h.row.frozen 3
  simp only [List.getElem_cons_zero, List.getElem_cons_succ] at c2 c3
  have hbx := h.row.lt
  obtain ⟨lf, hlf1, hlf2⟩ := h.first
  have HP1 := hide (h.tick (wrap64 (X.clock + 1)))
  have HT1 : Hid (Tn (fun k => k = bx ∨ k = bf) w (w.setCell ⟨bx, 3, none⟩ (.int .i64 (wrap64 (X.clock + 1))))) := Tn.set w ⟨bx, 3, none⟩ _ (.inl rfl)
  have HL1 : Hid (SMap (w.setCell ⟨bx, 3, none⟩ (.int .i64 (wrap64 (X.clock + 1)))) bi lf) := hlf1.setCell h.ne2 _
  have hlm := hlf2.2 c
  cases hfi : ef.findIdx? (fun e => e.cmd == c) with
  | none =>
    rw [hfi] at hlm
    have HLM : Hid (mget lf c = none) := hlm
    rw [give_none (first_none hfi)]
    rw [hx]
    clear hlm hfi hlf1 hlf2 h hE hEs hwl hfit hae
    go_enter Tryz.func217, Tryz.ntmps217
    go_wp2_with (first
      | (at_lookup; refine wpList_look_ok_no _ rfl _ _ 179 rfl 9 3 Tryz.underlying179 Tryz.underlying9 _ (zeroInt _) bi lf rfl (unhide HL1) c rfl (unhide HLM) ?_)
      | fail)
    go_ret
    exact ⟨rfl, unhide HP1, unhide HT1⟩
  | some i =>
    rw [hfi] at hlm
    have HLM : Hid (mget lf c = some (.int .i64 (i : Nat))) := hlm
    obtain ⟨hi, hi1, hi2⟩ := first_some hfi
    rw [give_some hi hi1 hi2]
    obtain rfl := hae (by omega)
    have hri := hE.2 i hi
    have HE := hide hri
    have hbl := hE.1
    have hwi := hwl ef[i] (List.getElem_mem hi)
    have HES := hide (hEs ef[i] (List.getElem_mem hi))
    have HFT := hide hfit
    have i1 : (i : Int) < (ef.length : Int) := by omega
    obtain ⟨aw, cw, bw, ow, q1, q2, q3, q4⟩ := hri.writes
    have HRB : Hid (∀ W, Tn (fun k => k = bx ∨ k = bf) w W → W.cell? ⟨be, oe + i * 3 + 1, none⟩ = some (.slice aw ef[i].writes.length cw) ∧ RdF W bw ow ef[i].writes ∧ W.cell? ⟨be, oe + i * 3 + 2, none⟩ = some (.int .i64 ef[i].exit)) := fun W ht => by
      have hb := ht.below (B := L) (by omega) (fun k e => by rcases e with rfl | rfl <;> omega)
      exact ⟨(hb.cell (p := ⟨be, _, none⟩) hbl).trans q1, q3.below hb q4, (hb.cell (p := ⟨be, _, none⟩) hbl).trans hri.exit⟩
    have q1' := (unhide HRB _ (unhide HT1)).1
    have HQ2 := hide q2
    have HP0 := (unhide HP1).row
    have d1 := HP0.cell 1 (by simp)
    simp only [List.getElem_cons_zero, List.getElem_cons_succ] at d1
    generalize hge : ef[i] = ei at *
    clear hlm hfi hlf1 hlf2 h hE hEs hwl hfit hae hri q1 q2 q3 hi1 hi2 HP0 HE
    go_enter Tryz.func217, Tryz.ntmps217
    go_wp2_with (first
      | (at_lookup; refine wpList_look_ok_yes _ rfl _ _ 179 rfl 9 3 Tryz.underlying179 Tryz.underlying9 _ (zeroInt _) bi lf rfl (unhide HL1) c rfl _ (unhide HLM) ?_)
      | fail)
    generalize hck : wrap64 (X.clock + 1) = clk at *
    have HCK := hide hck
    clear hck
    generalize w.setCell ⟨bx, 3, none⟩ (.int .i64 clk) = W1 at *
    go_loopw [36] (fun j wr => ∃ k : Nat, j = .int .i64 k ∧ k ≤ ei.writes.length ∧ Hid (PW wr bx bf bi (.slice (some ⟨be, oe, none⟩) ef.length ce) ef ((ei.writes.take k).foldl (fun acc f => Pl.putF acc (Pl.stamp clk f)) X.files) clk) ∧ Hid (Tn (fun k => k = bx ∨ k = bf) w wr)) (fun j _ => ei.writes.length - intN j)
    case atStart => exact ⟨0, rfl, Nat.zero_le _, HP1, HT1⟩
    case round =>
      clear HP1 HT1 HL1 HLM
      obtain ⟨k, rfl, hkl, HP, HT⟩ := hrel
      clear d1 q1'
      obtain ⟨q1, q3, q5⟩ := unhide HRB _ (unhide HT)
      by_cases hk : k < ei.writes.length
      · obtain rfl := unhide HQ2 (by omega)
        obtain ⟨p0, p1, p2⟩ := q3 k hk
        have HPF := hide (put_files clk X.files ei.writes k hk)
        have HFk : Hid (Fit S ((ei.writes.take k).foldl (fun acc f => Pl.putF acc (Pl.stamp clk f)) X.files)) := Fit.puts clk _ (unhide HFT) (fun f hf => unhide HES f (List.mem_of_mem_take hf))
        have hfk2 := (unhide HFk).len
        generalize (ei.writes.take k).foldl (fun acc f => Pl.putF acc (Pl.stamp clk f)) X.files = acc at *
        generalize hfk : ei.writes[k] = fk at *
        unfold strV at p0 p1
        have t1 : (k : Int) < (ei.writes.length : Int) := by omega
        have x3 := (unhide HP).row.cell 3 (by simp)
        have hbxr := (unhide HP).row.lt
        simp only [List.getElem_cons_zero, List.getElem_cons_succ] at x3
        have hfe : (fEnts acc).length < maxLen := by unfold fEnts maxLen; rw [List.length_map]; omega
        clear q1 q3 q5 hfk HFk
        have R2 := Row.new wr 65 [.string ⟨fk.path.toArray⟩, .string ⟨fk.text.toArray⟩, .int .i64 clk]
        have hT2 : Below wr.heap.size wr (wr.alloc (.cells #[.string ⟨fk.path.toArray⟩, .string ⟨fk.text.toArray⟩, .int .i64 clk] 65)) := (Below.refl _ wr).alloc (Nat.le_refl _) _
        have HP2 := hide ((unhide HP).later hT2)
        have HT2 := hide ((unhide HT).trans (Tn.later (p := fun k => k = bx ∨ k = bf) hT2))
        have hbfl := (unhide HP).files.lt
        have HR2 := hide R2
        have r0 := R2.cell 0 (by simp)
        have r1 := R2.cell 1 (by simp)
        have r2 := R2.cell 2 (by simp)
        simp only [List.getElem_cons_zero, List.getElem_cons_succ] at r0 r1 r2
        have y0 := (unhide HP2).row.cell 0 (by simp)
        simp only [List.getElem_cons_zero] at y0
        clear hT2 R2
        as_aux_lemma =>
          go_wp2_with fail
          generalize wr.alloc (.cells #[.string ⟨fk.path.toArray⟩, .string ⟨fk.text.toArray⟩, .int .i64 clk] 65) = W2 at *
          obtain ⟨w1, hrun, hs1, ht1⟩ := (show SMap W2.drew bf (fEnts acc) from (unhide HP2).files).put (P := Tryz.prog) (t := 177) Tryz.underlying177 Tryz.underlying9 hfe fk.path (fileV (Pl.stamp clk fk))
          unfold strV fileV Pl.stamp at hrun
          simp only at hrun
          have HPW := hide (PW.put (f := Pl.stamp clk fk) ((unhide HP2).later (Below.refl _ W2).drew) hs1 ht1)
          have HTN := hide (((unhide HT2).trans (Tn.later (Below.refl _ W2).drew)).trans (Tn.grown (p := fun k => k = bx ∨ k = bf) ht1.grown (fun k e => by cases e; exact .inr rfl)))
          have hr3 := (show Row W2.drew wr.heap.size _ _ from unhide HR2).tn (Tn.grown (p := fun k => k = bf) ht1.grown (fun k e => by cases e; rfl)) (by omega)
          have z0 := hr3.cell 0 (by simp)
          have z1 := hr3.cell 1 (by simp)
          have z2 := hr3.cell 2 (by simp)
          have z3 := (unhide HPW).row.cell 0 (by simp)
          simp only [List.getElem_cons_zero, List.getElem_cons_succ] at z0 z1 z2 z3
          clear hs1 ht1 hr3
          go_region_held3 (fun w' => w'.cell? ⟨bx, 0, none⟩ = some (.map (some bf)) ∧ w'.cell? ⟨wr.heap.size, 0, none⟩ = some (.string ⟨fk.path.toArray⟩) ∧ w'.cell? ⟨wr.heap.size, 1, none⟩ = some (.string ⟨fk.text.toArray⟩) ∧ w'.cell? ⟨wr.heap.size, 2, none⟩ = some (.int .i64 clk)) (go_keep) (fail)
          all_goals go_wp2_with fail
          all_goals go_roundw
          all_goals first
            | exact ⟨k + 1, by go_num, by omega, by rw [unhide HPF]; exact unhide HPW, HTN⟩
            | (simp only [intN]; omega)
      · have hke : ei.writes.take k = ei.writes := List.take_of_length_le (by omega)
        rw [hke] at HP
        have d1 := (unhide HP).row.cell 1 (by simp)
        simp only [List.getElem_cons_zero, List.getElem_cons_succ] at d1
        clear hke
        go_wp2_with fail
        go_ret
        obtain rfl := unhide HCK
        exact ⟨rfl, unhide HP, unhide HT⟩
end Go.Proofs.YtjelacjggijmfaaGreatDoor
