/-
  Package plans: a plan is read; Check of package maker.
  A sound plan that runs: at each place its stack has the height that is awaited there.
-/
import Derived.Test.YtjelacjggijmfaaGreatDoorVSPure
import Derived.Test.YtjelacjggijmfaaGreatDoorVSP8
namespace Go.Pl
open Go Go.RowKit

theorem snd_at {c : Bs} {m : Nat} : ∀ {f p h : Nat} {A : Aw} {q x : Nat}, Snd c m f p h A → A q = some x → ∃ B, Spec c m q x B
  | 0, _, _, _, _, _, h, _ => h.elim
  | f + 1, p, h, A, q, x, hs, hx => by
    by_cases hqp : q = p
    · subst hqp
      have := hs.1 x hx
      subst this
      exact ⟨A, f + 1, hs⟩
    obtain ⟨_, ⟨hp, hw, ho, _, _, h6, hn⟩ | ⟨hp, _, hz⟩⟩ := hs
    · have : onward A (mkIns c p) h q = some x := by
        unfold onward put
        have hd : del A p q = some x := by unfold del; rw [if_neg hqp]; exact hx
        split
        · rename_i ho6
          dsimp only
          split
          · rename_i hq
            have := h6 ho6 x (by rw [← hq]; exact hd)
            rw [this]; rfl
          · exact hd
        · exact hd
      exact snd_at hn this
    · rw [hz q hqp] at hx; cases hx
theorem spec_at {c : Bs} {m p h q x : Nat} {A : Aw} (hs : Spec c m p h A) (hx : A q = some x) : ∃ B, Spec c m q x B := let ⟨_, hf⟩ := hs; snd_at hf hx
/-- the plan is sound from here on, with a stack of this height -/
def Sn (c : Bs) (m p h : Nat) : Prop := ∃ A, Spec c m p h A
theorem isz_ops {op : Nat} (h : isz op ≠ 0) : op = 1 ∨ op = 2 ∨ op = 3 ∨ op = 4 ∨ op = 5 ∨ op = 6 ∨ op = 7 ∨ op = 8 := by
  unfold isz at h
  split at h
  · omega
  · split at h
    · omega
    · split at h
      · omega
      · split at h
        · omega
        · exact absurd rfl h
structure Fits (c : Bs) (m p h : Nat) : Prop where
  whole : whole c p
  ops : okOps m (mkIns c p)
  taken : taken (opAt c p) ≤ h
  rise : rise (opAt c p) h ≤ 16
theorem Sn.fits {c : Bs} {m p h : Nat} (hs : Sn c m p h) (hp : p < c.length) : Fits c m p h := by
  obtain ⟨A, hA⟩ := hs
  obtain ⟨_, h1, h2, h3, h4, _⟩ := (spec_step hp).1 hA
  exact ⟨h1, h2, h3, h4⟩
theorem act_height {c : Bs} {p : Nat} {ss : List Bs} {ef : List Eff} {st : List Bool} {fl : Nat → Bool} {X : Wd} (hw : whole c p) (ht : taken (opAt c p) ≤ st.length) : (act ss ef (mkIns c p) st fl X).2.1.length = rise (opAt c p) st.length := by
  have ho : (mkIns c p).op = opAt c p := rfl
  unfold act rise
  rw [ho]
  rcases isz_ops hw.1 with h | h | h | h | h | h | h | h <;> rw [h] at ht ⊢ <;> simp [Pl.taken, pushed] at ht ⊢ <;> omega
theorem Sn.next {c : Bs} {m p : Nat} {ss : List Bs} {ef : List Eff} {st : List Bool} {fl : Nat → Bool} {X : Wd} (hs : Sn c m p st.length) (hp : p < c.length) :
    Sn c m (act ss ef (mkIns c p) st fl X).1 (act ss ef (mkIns c p) st fl X).2.1.length ∧ p < (act ss ef (mkIns c p) st fl X).1 := by
  have hf := hs.fits hp
  obtain ⟨A, hA⟩ := hs
  obtain ⟨_, h1, h2, h3, h4, h5, h6⟩ := (spec_step hp).1 hA
  rw [act_height hf.whole hf.taken]
  have ho : (mkIns c p).op = opAt c p := rfl
  have hn : (mkIns c p).next = p + isz (opAt c p) := rfl
  have hz := hf.whole.1
  by_cases h6' : opAt c p = 6
  · have e1 : (act ss ef (mkIns c p) st fl X).1 = if st.getLast?.getD false then (mkIns c p).next else (mkIns c p).next + (mkIns c p).first := by
      unfold act; rw [ho, h6']; simp
    rw [e1]
    split
    · exact ⟨⟨_, h6⟩, by omega⟩
    · refine ⟨spec_at h6 (q := (mkIns c p).next + (mkIns c p).first) (x := rise (opAt c p) st.length) ?_, by omega⟩
      unfold onward put
      rw [if_pos (by rw [ho]; exact h6')]
      simp [ho]
  · have e1 : (act ss ef (mkIns c p) st fl X).1 = (mkIns c p).next := by
      unfold act; rw [ho]
      rcases isz_ops hz with h | h | h | h | h | h | h | h <;> first | (exact absurd h h6') | (rw [h]; simp)
    rw [e1]
    exact ⟨⟨_, h6⟩, by omega⟩
/-- from here on the run ends in R -/
def Ends (c : Bs) (ss : List Bs) (ef : List Eff) (p : Nat) (st : List Bool) (fl : Nat → Bool) (X R : Wd) : Prop := ∃ f, c.length - p < f ∧ exec c ss ef f p st fl X = R
theorem Ends.stop {c : Bs} {ss : List Bs} {ef : List Eff} {p : Nat} {st : List Bool} {fl : Nat → Bool} {X R : Wd} (h : Ends c ss ef p st fl X R) (hn : ¬ (p < c.length ∧ X.exit = 0)) : X = R := by
  obtain ⟨f, _, hf⟩ := h
  rw [exec_end hn] at hf; exact hf
theorem Ends.step {c : Bs} {ss : List Bs} {ef : List Eff} {p : Nat} {st : List Bool} {fl : Nat → Bool} {X R : Wd} (h : Ends c ss ef p st fl X R) (hp : p < c.length) (hx : X.exit = 0) (hn : p < (act ss ef (mkIns c p) st fl X).1) :
    Ends c ss ef (act ss ef (mkIns c p) st fl X).1 (act ss ef (mkIns c p) st fl X).2.1 (act ss ef (mkIns c p) st fl X).2.2.1 (act ss ef (mkIns c p) st fl X).2.2.2 R := by
  obtain ⟨f, h1, h2⟩ := h
  cases f with
  | zero => omega
  | succ f =>
    rw [exec, if_pos ⟨hp, hx⟩] at h2
    exact ⟨f, by omega, h2⟩
/-- what a plan does in a world -/
def runW (c : Bs) (ss : List Bs) (ef : List Eff) (X : Wd) : Wd := exec c ss ef (c.length + 1) 0 [] (fun _ => false) X
theorem Ends.start (c : Bs) (ss : List Bs) (ef : List Eff) (X : Wd) : Ends c ss ef 0 [] (fun _ => false) X (runW c ss ef X) := ⟨c.length + 1, by omega, rfl⟩
end Go.Pl
namespace Go.Proofs.YtjelacjggijmfaaGreatDoor
open Go.RowKit Go.Shelf

theorem sound_any (a : Option Addr) (m cap : Nat) (s : ByteArray) (w : World) (hs : s.size ≤ 8388608) :
    Calls Tryz.prog 81 #[.agg #[.slice a m cap, .string s]] w fun e w' => (∃ r : Bool, e = .returned (.bool r) ∧ (r = true ↔ Pl.Spec s.data.toList m 0 0 (fun _ => none))) ∧ Below w.heap.size w w' :=
  callsIn_wide.1 (sound_in a m cap s w hs)
theorem load_len {s : Pl.Bs} {ss : List Pl.Bs} {c : Pl.Bs} (h : Pl.load s = some (ss, c)) : c.length ≤ s.length ∧ ss.length ≤ 1000 := by
  unfold Pl.load at h
  split at h
  · rename_i h4
    have := Pl.strs_len _ _ _ h
    simp only [List.length_drop] at this
    omega
  · cases h
/-- What Read leaves. -/
structure ReadPost (s : Pl.Bs) (w : World) (e : Ending) (w' : World) : Prop where
  res : (¬ Pl.checkOf s ∧ e = .returned (.tuple #[.agg #[.slice none 0 0, .string ⟨#[]⟩], .int .i64 9])) ∨
    ∃ ss c b, Pl.load s = some (ss, c) ∧ Pl.Spec c ss.length 0 0 (fun _ => none) ∧ e = .returned (.tuple #[.agg #[.slice (some ⟨b, 0, none⟩) ss.length ss.length, .string ⟨c.toArray⟩], .int .i64 0]) ∧ Row w' b 9 (ss.map strV) ∧ w.heap.size ≤ b
  below : Below w.heap.size w w'
set_option maxHeartbeats 1000000 in
set_option maxRecDepth 20000 in
theorem read_any (l : List UInt8) (w : World) (hl : l.length ≤ 8388608) :
    Calls Tryz.prog 59 #[.string ⟨l.toArray⟩] w fun e w' => ReadPost l w e w' := by
  have C := hide (fun w => split_any l w hl)
  have HL := hide hl
  clear hl
  go_enter Tryz.func59, Tryz.ntmps59
  go_wp2_with fail
  refine (unhide C _).mono ?_
  rintro e w1 ⟨⟨hn, rfl⟩ | ⟨ss, c, b, hld, rfl, hrow, hle⟩, hb1⟩
  · have HN : Hid (¬ Pl.checkOf l) := by
      rintro ⟨x, hx, _⟩
      rw [hn] at hx; cases hx
    have hr0 : Row w1 w.heap.size 120 [.slice none 0 0, .string ⟨#[]⟩] := (Row.new w 120 [.slice none 0 0, .string ⟨#[]⟩]).later hb1
    have hb0 := (Below.refl _ w).alloc (Nat.le_refl _) (.cells #[.slice none 0 0, .string ⟨#[]⟩] 120)
    have HB := hide (hb0.trans (hb1.mono hb0.size))
    have c0 := hr0.cell 0 (by simp)
    have c1 := hr0.cell 1 (by simp)
    have f0 := hr0.frozen 0
    have f1 := hr0.frozen 1
    have hlt := hr0.lt
    simp only [List.getElem_cons_zero, List.getElem_cons_succ] at c0 c1
    have HR := hide hr0
    clear hb0 hb1 hr0 hn C
    go_wp2_with fail
    have hr1 := (((unhide HR).set 0 (.slice none 0 0)).set 1 (.string ⟨#[]⟩)).alloc (.cells #[.slice none 0 0, .string ⟨#[]⟩] 120)
    have p0 := hr1.cell 0 (by simp)
    have p1 := hr1.cell 1 (by simp)
    simp only [List.set_cons_zero, List.set_cons_succ, List.getElem_cons_zero, List.getElem_cons_succ] at p0 p1
    refine bodyPost_ret (v := .tuple #[.agg #[.slice none 0 0, .string ⟨#[]⟩], .int .i64 9]) ?_ rfl ⟨.inl ⟨unhide HN, rfl⟩, (((unhide HB).setCell (p := ⟨w.heap.size, 0, none⟩) (Nat.le_refl _) _).setCell (p := ⟨w.heap.size, 1, none⟩) (Nat.le_refl _) _).alloc (by simp [World.setCell]; omega) _⟩
    simp [results, Tryz.results59, go_sem, p0, p1]
  · have hll := load_len hld
    have hsz : (⟨c.toArray⟩ : ByteArray).size ≤ 8388608 := by rw [size_mk]; have := unhide HL; omega
    have CS := hide (fun w => sound_any (some ⟨b, 0, none⟩) ss.length ss.length ⟨c.toArray⟩ w hsz)
    rw [mk_list] at CS
    have hr0 : Row w1 w.heap.size 120 [.slice none 0 0, .string ⟨#[]⟩] := (Row.new w 120 [.slice none 0 0, .string ⟨#[]⟩]).later hb1
    have hb0 := (Below.refl _ w).alloc (Nat.le_refl _) (.cells #[.slice none 0 0, .string ⟨#[]⟩] 120)
    have HB := hide (hb0.trans (hb1.mono hb0.size))
    have HR := hide hr0
    have HRow := hide hrow
    have HLD := hide hld
    have hlt := hr0.lt
    clear hb0 hb1 hr0 hrow hld hsz C
    go_wp2_with fail
    refine (unhide CS _).mono ?_
    rintro e w2 ⟨⟨r, rfl, hr⟩, hb2⟩
    have hR1 := ((unhide HR).alloc (.cells #[.slice (some ⟨b, 0, none⟩) ss.length ss.length, .string ⟨c.toArray⟩] 120)).later hb2
    have hP1 := (Row.new w1 120 [.slice (some ⟨b, 0, none⟩) ss.length ss.length, .string ⟨c.toArray⟩]).later hb2
    have hS1 := ((unhide HRow).alloc (.cells #[.slice (some ⟨b, 0, none⟩) ss.length ss.length, .string ⟨c.toArray⟩] 120)).later hb2
    have hB1 := (unhide HB).alloc (by omega) (.cells #[.slice (some ⟨b, 0, none⟩) ss.length ss.length, .string ⟨c.toArray⟩] 120)
    have HB2 := hide (hB1.trans (hb2.mono hB1.size))
    have c0 := hR1.cell 0 (by simp)
    have c1 := hR1.cell 1 (by simp)
    have f0 := hR1.frozen 0
    have f1 := hR1.frozen 1
    have q0 := hP1.cell 0 (by simp)
    have q1 := hP1.cell 1 (by simp)
    simp only [List.getElem_cons_zero, List.getElem_cons_succ] at c0 c1 q0 q1
    have hbn : w.heap.size < b := by rw [World.size_alloc] at hle; omega
    have HR1 := hide hR1
    have HS1 := hide hS1
    clear hR1 hP1 hS1 hB1 hb2 CS hle
    cases r with
    | false =>
      have HN : Hid (¬ Pl.checkOf l) := by
        rintro ⟨x, hx, hsp⟩
        rw [unhide HLD] at hx
        cases hx
        have := hr.2 hsp; cases this
      clear hr
      go_wp2_with fail
      have hr1 := ((unhide HR1).set 0 (.slice none 0 0)).set 1 (.string ⟨#[]⟩)
      have p0 := hr1.cell 0 (by simp)
      have p1 := hr1.cell 1 (by simp)
      simp only [List.set_cons_zero, List.set_cons_succ, List.getElem_cons_zero, List.getElem_cons_succ] at p0 p1
      refine bodyPost_ret (v := .tuple #[.agg #[.slice none 0 0, .string ⟨#[]⟩], .int .i64 9]) ?_ rfl ⟨.inl ⟨unhide HN, rfl⟩, ((unhide HB2).setCell (p := ⟨w.heap.size, 0, none⟩) (Nat.le_refl _) _).setCell (p := ⟨w.heap.size, 1, none⟩) (Nat.le_refl _) _⟩
      simp [results, Tryz.results59, go_sem, p0, p1]
    | true =>
      have HSP := hide (hr.1 rfl)
      clear hr
      go_wp2_with fail
      have hr1 := ((unhide HR1).set 0 (.slice (some ⟨b, 0, none⟩) ss.length ss.length)).set 1 (.string ⟨c.toArray⟩)
      have p0 := hr1.cell 0 (by simp)
      have p1 := hr1.cell 1 (by simp)
      simp only [List.set_cons_zero, List.set_cons_succ, List.getElem_cons_zero, List.getElem_cons_succ] at p0 p1
      refine bodyPost_ret (v := .tuple #[.agg #[.slice (some ⟨b, 0, none⟩) ss.length ss.length, .string ⟨c.toArray⟩], .int .i64 0]) ?_ rfl
        ⟨.inr ⟨ss, c, b, unhide HLD, unhide HSP, rfl, ((unhide HS1).other (by omega) _ _).other (by omega) _ _, by omega⟩, ((unhide HB2).setCell (p := ⟨w.heap.size, 0, none⟩) (Nat.le_refl _) _).setCell (p := ⟨w.heap.size, 1, none⟩) (Nat.le_refl _) _⟩
      simp [results, Tryz.results59, go_sem, p0, p1]
set_option maxHeartbeats 1000000 in
theorem check_any (l : List UInt8) (w : World) (hl : l.length ≤ 8388608) :
    Calls Tryz.prog 29 #[.string ⟨l.toArray⟩] w fun e w' => (∃ z : Int, e = .returned (.int .i64 z) ∧ ((z = 0 ∧ Pl.checkOf l) ∨ (z = 9 ∧ ¬ Pl.checkOf l))) ∧ Below w.heap.size w w' := by
  have C := hide (fun w => read_any l w hl)
  go_enter Tryz.func29, Tryz.ntmps29
  go_wp2_with fail
  refine (unhide C _).mono ?_
  rintro e w1 ⟨⟨hn, rfl⟩ | ⟨ss, c, b, hld, hsp, rfl, hrow, hle⟩, hb1⟩
  · have HN := hide hn
    clear hn
    go_wp2_with fail
    go_ret
    exact ⟨⟨_, rfl, .inr ⟨rfl, unhide HN⟩⟩, hb1.alloc hb1.size _⟩
  · have HC : Hid (Pl.checkOf l) := ⟨(ss, c), hld, hsp⟩
    clear hld hsp hrow hle
    go_wp2_with fail
    go_ret
    exact ⟨⟨_, rfl, .inl ⟨rfl, unhide HC⟩⟩, hb1.alloc hb1.size _⟩
end Go.Proofs.YtjelacjggijmfaaGreatDoor
