/-
  Package plans: the height behind an instruction.
-/
import Derived.Test.YtjelacjggijmfaaSP5
namespace Go.Proofs.Ytjelacjggijmfaa
open Go.RowKit Go.Maps

/-- Nothing but the walk's own height and its map has turned. -/
abbrev Stepped (b bm : Nat) : World → World → Prop := Turned (fun k => k = b ∨ k = bm)
set_option maxHeartbeats 1000000 in
set_option maxRecDepth 20000 in
theorem step_low (b bm m h : Nat) (i : Pl.Ins) (w : World) (hr : Row w b 110 [.int .i64 m, .int .i64 h, .map (some bm)]) (h1 : 1 ≤ i.op) (h8 : i.op ≤ 8) (hlow : h < Pl.taken i.op) :
    Calls Try.prog 47 #[.pointer (some ⟨b, 0, none⟩), insV i] w fun e w' => e = .returned (.bool false) ∧ Below w.heap.size w w' := by
  obtain ⟨op, p, nx, F, G⟩ := i
  simp only at h1 h8 hlow
  unfold insV
  simp only
  have c1 : ∀ o, (w.alloc o).cell? ⟨b, 1, none⟩ = some (.int .i64 h) := fun o => by
    have := (hr.alloc o).cell 1 (by simp)
    simpa using this
  have HR := hide hr
  have CU := hide (fun w => uses_any op h1 h8 w)
  clear hr
  generalize Pl.taken op = tk at *
  generalize Pl.pushed op = pu at *
  have hlow' : (h : Int) < tk := by omega
  go_enter Try.func47, Try.ntmps47
  go_wp2_with fail
  refine (unhide CU _).mono ?_
  rintro e w1 ⟨rfl, rfl⟩
  go_wp2_with fail
  all_goals go_ret
  all_goals exact ⟨rfl, (Below.refl _ w).alloc (Nat.le_refl _) _⟩
/-- What a step has done. -/
structure StepPost (b bm n m h : Nat) (i : Pl.Ins) (A : Pl.Aw) (w : World) (r : Bool) (w' : World) : Prop where
  ok : r = true ↔ Pl.rise i.op h ≤ 16 ∧ (i.op = 6 → Pl.agrees A (i.next + i.first) (Pl.rise i.op h))
  on : r = true → Row w' b 110 [.int .i64 m, .int .i64 (Pl.rise i.op h), .map (some bm)] ∧ ∃ D', Mw w' bm (n + 1) D' ∧ Holds D' (if i.op = 6 then Pl.put A (i.next + i.first) (Pl.rise i.op h) else A)
  kept : Stepped b bm w w'
set_option maxHeartbeats 1000000 in
set_option maxRecDepth 20000 in
theorem step_on (b bm n m h : Nat) (i : Pl.Ins) (D : DataW Unit) (A : Pl.Aw) (w : World) (hr : Row w b 110 [.int .i64 m, .int .i64 h, .map (some bm)]) (h1 : 1 ≤ i.op) (h8 : i.op ≤ 8) (hh : h ≤ 16) (htk : Pl.taken i.op ≤ h)
    (hnx : i.next ≤ 1048576) (hF : i.first ≤ 65535) (hown : Mw w bm n D) (hA : Holds D A) (hn : n ≤ 2097152) (hne : b ≠ bm) :
    Calls Try.prog 47 #[.pointer (some ⟨b, 0, none⟩), insV i] w fun e w' => ∃ r : Bool, e = .returned (.bool r) ∧ StepPost b bm n m h i A w r w' := by
  have CU := hide (fun w => uses_any i.op h1 h8 w)
  have hpu : Pl.pushed i.op ≤ 1 := by unfold Pl.pushed; split <;> omega
  have hri : Pl.rise i.op h = h - Pl.taken i.op + Pl.pushed i.op := rfl
  have hrb := hr.lt
  have hbm := hown.lt
  have c1 : w.cell? ⟨b, 1, none⟩ = some (.int .i64 h) := by
    have := hr.cell 1 (by simp)
    simpa using this
  have f1 : w.frozen? ⟨b, 1, none⟩ = false := hr.frozen 1
  have d1 : ∀ v, (w.setCell ⟨b, 1, none⟩ v).cell? ⟨b, 1, none⟩ = some v := fun v => by
    have := (hr.set 1 v).cell 1 (by simp)
    simpa using this
  obtain ⟨X, hX⟩ : ∃ X, X = Obj.cells #[.int .u8 i.op, .int .i64 i.at_, .int .i64 i.next, .int .i64 i.first, .int .i64 i.second] 116 := ⟨_, rfl⟩
  have hr2 : Row ((w.setCell ⟨b, 1, none⟩ (.int .i64 (Pl.rise i.op h))).alloc X) b 110 [.int .i64 m, .int .i64 (Pl.rise i.op h), .map (some bm)] := (hr.set 1 _).alloc X
  have hs2 : Stepped b bm w ((w.setCell ⟨b, 1, none⟩ (.int .i64 (Pl.rise i.op h))).alloc X) := ((Turned.refl _ w).set (.inl rfl) 1 _).alloc X
  have hm2 : Mw ((w.setCell ⟨b, 1, none⟩ (.int .i64 (Pl.rise i.op h))).alloc X) bm n D := (hown.setCell (a := ⟨b, 1, none⟩) (fun e => hne e.symm) _).alloc X
  have htk' : ¬ (h : Int) < (Pl.taken i.op : Int) := by omega
  have hh' : (h : Int) + ((Pl.pushed i.op : Int) - (Pl.taken i.op : Int)) = (Pl.rise i.op h : Int) := by omega
  have HH := hide hh'
  by_cases h16 : Pl.rise i.op h ≤ 16
  · have g16 : ¬ (16 : Int) < (h : Int) + ((Pl.pushed i.op : Int) - (Pl.taken i.op : Int)) := by omega
    by_cases h6 : i.op = 6
    · obtain ⟨q, hq⟩ : ∃ q, q = i.next + i.first := ⟨_, rfl⟩
      have CA := hide (await_any b bm n m (Pl.rise i.op h) q D A _ hr2 hm2 hA (by omega) h16 hn hne)
      have HQ : Hid ((i.next : Int) + (i.first : Int) = (q : Int)) := by show _ = _; omega
      have HP : Hid (∀ r w'', (r = true ↔ Pl.agrees A q (Pl.rise i.op h)) → Mw w'' bm (n + 1) (D.put (kI q) (.lit (.int .i64 (Pl.rise i.op h)))) → ((w.setCell ⟨b, 1, none⟩ (.int .i64 (Pl.rise i.op h))).alloc X).grownBy w'' (some bm) → StepPost b bm n m h i A w r w'') := by
        intro r w'' k1 k2 k3
        refine ⟨?_, fun _ => ⟨hr2.grown k3 (fun e => hne (Option.some.inj e)), _, k2, ?_⟩, hs2.trans ((Turned.ofGrown k3).mono (fun k e => .inr (Option.some.inj e)))⟩
        · rw [k1, hq]; exact ⟨fun e => ⟨h16, fun _ => e⟩, fun e => e.2 h6⟩
        · rw [if_pos h6, ← hq]; exact hA.put hm2.isMap q _
      clear hr hown hA hri hh' hr2 hs2 hm2 hq h16
      obtain ⟨op, p, nx, F, G⟩ := i
      simp only at h6
      subst h6
      unfold insV
      simp only at *
      generalize Pl.rise 6 h = h' at *
      generalize Pl.taken 6 = tk at *
      generalize Pl.pushed 6 = pu at *
      go_enter Try.func47, Try.ntmps47
      go_wp2_with fail
      refine (unhide CU _).mono ?_
      rintro e w1 ⟨rfl, rfl⟩
      go_wp2_with fail
      rw [unhide HH, unhide HQ, ← show X = Obj.cells #[.int .u8 6, .int .i64 p, .int .i64 nx, .int .i64 F, .int .i64 G] 116 from hX]
      refine (unhide CA).mono ?_
      rintro e w2 ⟨⟨r, rfl, k1⟩, k2, k3⟩
      have K := hide (unhide HP r w2 k1 k2 k3)
      clear k1 k2 k3
      go_wp2_with fail
      all_goals go_ret
      all_goals exact ⟨_, rfl, unhide K⟩
    · have HP : Hid (StepPost b bm n m h i A w true ((w.setCell ⟨b, 1, none⟩ (.int .i64 (Pl.rise i.op h))).alloc X)) :=
        ⟨by simp [h16, h6], fun _ => ⟨hr2, D, hm2.mono (Nat.le_succ _), by rw [if_neg h6]; exact hA⟩, hs2⟩
      clear hr hown hA hri hh' hr2 hs2 hm2 h16
      obtain ⟨op, p, nx, F, G⟩ := i
      unfold insV
      simp only at *
      generalize Pl.rise op h = h' at *
      generalize Pl.taken op = tk at *
      generalize Pl.pushed op = pu at *
      have b6 : ((op : Int) != 6) = true := by rw [bne_iff_ne]; omega
      go_enter Try.func47, Try.ntmps47
      go_wp2_with fail
      refine (unhide CU _).mono ?_
      rintro e w1 ⟨rfl, rfl⟩
      go_wp2_with fail
      all_goals go_ret
      all_goals (rw [unhide HH, ← hX]; exact ⟨_, rfl, unhide HP⟩)
  · have g16 : (16 : Int) < (h : Int) + ((Pl.pushed i.op : Int) - (Pl.taken i.op : Int)) := by omega
    have HP : Hid (StepPost b bm n m h i A w false ((w.setCell ⟨b, 1, none⟩ (.int .i64 (Pl.rise i.op h))).alloc X)) :=
      ⟨by simp [h16], fun e => (by cases e), hs2⟩
    clear hr hown hA hri hh' hr2 hs2 hm2 h16
    obtain ⟨op, p, nx, F, G⟩ := i
    unfold insV
    simp only at *
    generalize Pl.rise op h = h' at *
    generalize Pl.taken op = tk at *
    generalize Pl.pushed op = pu at *
    go_enter Try.func47, Try.ntmps47
    go_wp2_with fail
    refine (unhide CU _).mono ?_
    rintro e w1 ⟨rfl, rfl⟩
    go_wp2_with fail
    all_goals go_ret
    all_goals (rw [unhide HH, ← hX]; exact ⟨_, rfl, unhide HP⟩)
end Go.Proofs.Ytjelacjggijmfaa
