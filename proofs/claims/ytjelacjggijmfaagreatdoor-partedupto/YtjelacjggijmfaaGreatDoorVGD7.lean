/-
  The iterator over the lines of a text, those that go on put together: what it gives, round by round.
  The law for a range over a function, the loop's own block being known.
  The reader: an include.
-/
import Derived.Test.YtjelacjggijmfaaGreatDoorVGD5
import Derived.Test.YtjelacjggijmfaaGreatDoorVSPure
import Derived.Test.YtjelacjggijmfaaGreatDoorVSP5
import Derived.Test.YtjelacjggijmfaaGreatDoorVW9
import Derived.RangeFuncCalls
import Derived.Shelf.Abstract
import Derived.Shelf.RegionOpen
import Derived.OwnWalkIn
import Derived.TacticsInMore
import Derived.LoopNIn
import Derived.LoopIn
namespace Go.Proofs.YtjelacjggijmfaaGreatDoor
open Go.RowKit Go.MapKept Go.ChangeMaps Go.Maps

section
variable {W X : World} {F G : Foot} {c : Ad} {rb : Nat → Nat} {s : St} {bf bi : Nat} {ve : Value} {ef : List Pl.Eff} {fs : List Pl.File} {clock : Int} {M o k : Nat} {rec : St → Pl.Bs → Nat × Nat × St}
/-- Between two files. -/
structure FlI (W : World) (F : Foot) (c : Ad) (M : Nat) (rec : St → Pl.Bs → Nat × Nat × St) (fs : List Pl.File) (num : Nat) (ws : List Pl.Bs) (s : St) (k j : Nat) (X : World) : Prop where
  mem : ∃ G rb' sj kj, RdM X G c rb' sj ∧ Fr F G W X ∧ Ok sj kj ∧ kj + (100 - sj.inc) * M ≤ k + (100 - s.inc) * M ∧ sj.opn = s.opn ∧ filesF rec fs num ws s = filesF rec fs num (ws.drop j) sj
set_option maxHeartbeats 4000000 in
set_option maxRecDepth 100000 in
theorem include_any (hrec : o ≠ 3 → RecC c bf bi ve ef fs clock M rec (o + 1)) (hro : RecOk M rec) (hf : ∀ p g, Pl.look fs p = some g → g.text.length + 1 ≤ M ∧ g.text.length ≤ 1073741824) (l : Mk.Ln) (h : RdM W F c rb s) (hE : En W F c.bx bf bi ve ef fs clock) (hk : Ok s k) (ho : s.opn = o) (ho3 : o ≤ 3) (hkk : k + (100 - s.inc) * M ≤ 4294967296) (hl : l.right.length ≤ 1073741824) :
    Calls Tryz.prog 138 #[.pointer (some ⟨c.rd, 0, none⟩), lnV l] W fun e W' => ∃ G rb', e = .returned (.tuple #[.int .i64 ((includeF rec fs s l).1 : Int), .int .i64 ((includeF rec fs s l).2.1 : Int)]) ∧ RdM W' G c rb' (includeF rec fs s l).2.2 ∧ Fr F G W W' := by
  obtain ⟨num, kind, L, R⟩ := l
  have hA : includeF rec fs s ⟨num, kind, L, R⟩ = if (expE s.names R).er ≠ 0 then ((expE s.names R).er, num, s) else filesF rec fs num (Mk.words (expE s.names R).txt) s := rfl
  rw [hA]
  have b0 := (Below.refl W.heap.size W).alloc (Nat.le_refl _) (.cells #[.int .i64 num, .int .i64 kind, .string ⟨L.toArray⟩, .string ⟨R.toArray⟩] 164)
  have hrow := Row.new W 164 [.int .i64 num, .int .i64 kind, .string ⟨L.toArray⟩, .string ⟨R.toArray⟩]
  have CE := hide (rdExp_any R (h.later b0) hk.short (hE.glob.later b0) hl)
  have hel := expE_len s.names R
  have HH : Hid (∀ w, Below W.heap.size W w → RdM w F c rb s ∧ Fr F F W w ∧ En w F c.bx bf bi ve ef fs clock) := fun w hw => ⟨h.later hw, Fr.later hw, hE.later hw⟩
  have HOUT : Hid (∀ k, W.heap.size ≤ k → F k = none) := fun k hk => h.out hk
  have HB0 := hide b0
  have HRW := hide hrow
  clear h hE b0 hrow hA
  generalize expE s.names R = eR at *
  obtain ⟨tr, err, rfr_⟩ := eR
  simp only at hel CE ⊢
  by_cases h1 : err = 0
  · subst h1
    rw [if_neg (by simp)]
    have a1 := words_len tr
    have CW := hide (fun w => wordsB_any tr w hel)
    generalize Mk.words tr = ws at *
    go_enter Tryz.func138, Tryz.ntmps138
    unfold lnV
    go_wp2_with (first
      | (go_at_call 182; refine (unhide CE).mono ?_; clear CE; rintro e w1 ⟨rfl, hb1⟩; have HR1 := hide ((unhide HRW).later hb1); have HB1 := hide ((unhide HB0).trans (hb1.mono (unhide HB0).size)); clear hb1)
      | (go_at_call 166; refine (unhide CW w1).mono ?_; clear CW; rintro e w2 ⟨A1, rfl, ho2, hb2⟩; have HS2 : Hid (SlF w2 F (.slice (some ⟨A1, 0, none⟩) ws.length ws.length) ws) := SlF.ofOwn ho2 (fun k hk _ => unhide HOUT k (Nat.le_trans (unhide HB1).size hk)); have HR2 := hide ((unhide HR1).later hb2); have HX2 := hide (unhide HH _ ((unhide HB1).trans (hb2.mono (unhide HB1).size))); clear ho2 hb2)
      | fail)
    have HX0 : Hid (FlI w2 F c M rec fs num ws s k 0 w2) := ⟨F, rb, s, k, (unhide HX2).1, Fr.refl _ _, hk, Nat.le_refl _, rfl, by rw [List.drop_zero]⟩
    have hFb : F W.heap.size = none := unhide HOUT _ (Nat.le_refl _)
    have HK := hide hk
    have HO := hide ho
    clear hk ho
    go_loopw [27] (fun iv wr => ∃ j : Nat, iv = .int .i64 j ∧ j ≤ ws.length ∧ Hid (FlI w2 F c M rec fs num ws s k j wr)) (fun iv _ => ws.length - intN iv)
    case atStart => exact ⟨0, rfl, by omega, HX0⟩
    case round =>
      clear HX0
      obtain ⟨j, rfl, hj2, HX⟩ := hrel
      obtain ⟨G, rb', sj, kj, m1, f1, k1, k2, k3, k4⟩ := (unhide HX).mem
      by_cases hj : j < ws.length
      · have t1 : (j : Int) < ws.length := by omega
        have t0 : (0 : Int) ≤ (j : Int) := by omega
        have hS := (unhide HS2).fr f1
        rcases hS with ⟨q, -⟩ | ⟨tb', tO', tc', q, x1, x2, x3, -⟩
        · cases q
        cases q
        have cn := x3 j ws[j] (List.getElem?_eq_getElem hj)
        unfold strV at cn
        rw [Nat.zero_add] at cn
        have r0 := ((unhide HR2).tn f1.tn (fun e => e hFb)).cell? (i := 0) rfl
        have hdr : ws.drop j = ws[j] :: ws.drop (j + 1) := List.drop_eq_getElem_cons hj
        have CF := hide (includeFile_any hrec hro hf ws[j] num m1 ((unhide HX2).2.2.fr f1) k1 (k3.trans (unhide HO)) ho3 (Nat.le_trans k2 hkk))
        have HG := hide (fileF_ok hro hf k1 ws[j] num)
        have HF4 : Hid (filesF rec fs num ws s = if (fileF rec fs sj ws[j] num).1 ≠ 0 then fileF rec fs sj ws[j] num else filesF rec fs num (ws.drop (j + 1)) (fileF rec fs sj ws[j] num).2.2) := by
          show _ = _
          rw [k4, hdr, filesF]
        have HF1 := hide f1
        have HK2 := hide k2
        have HK3 := hide k3
        clear m1 f1 k1 k2 k3 k4 x3 hdr HX
        generalize ws[j] = nme at *
        generalize fileF rec fs sj nme num = rf at *
        obtain ⟨re, rn, rs⟩ := rf
        simp only at CF HG HF4
        by_cases hre : re = 0
        · have u1 : ((re : Int) != 0) = false := by rw [bne_eq_false_iff_eq]; omega
          have HRE := hide hre
          clear hre
          go_wp2_with (first
            | (go_at_call 185; refine (unhide CF).mono ?_; clear CF; rintro e w3 ⟨G3, rb3, rfl, hm3, hf3⟩; have HM3 := hide hm3; have HF3 := hide hf3; clear hm3 hf3)
            | fail)
          go_roundw
          case rel =>
            obtain ⟨⟨k', g1, g2⟩, g3, g4⟩ := unhide HG
            refine ⟨j + 1, by go_num, by omega, ⟨G3, rb3, rs, k', unhide HM3, (unhide HF1).trans (unhide HF3), g1, ?_, g3.trans (unhide HK3), ?_⟩⟩
            · have := unhide HK2
              omega
            · rw [unhide HF4, if_neg (by simp [unhide HRE])]
          case measure => simp only [intN]; omega
        · have u1 : ((re : Int) != 0) = true := by rw [bne_iff_ne]; omega
          have HQ : Hid (filesF rec fs num ws s = (re, rn, rs)) := by
            show _ = _
            rw [unhide HF4, if_pos hre]
          clear hre
          go_wp2_with (first
            | (go_at_call 185; refine (unhide CF).mono ?_; clear CF; rintro e w3 ⟨G3, rb3, rfl, hm3, hf3⟩; have HM3 := hide hm3; have HF3 := hide hf3; clear hm3 hf3)
            | fail)
          go_ret2
          rw [unhide HQ]
          first
            | exact ⟨G3, rb3, rfl, unhide HM3, ((unhide HX2).2.1.trans (unhide HF1)).trans (unhide HF3)⟩
            | exact ⟨rfl, G3, rb3, unhide HM3, ((unhide HX2).2.1.trans (unhide HF1)).trans (unhide HF3)⟩
      · have hje : j = ws.length := by omega
        subst hje
        have t1 : ¬ (ws.length : Int) < ws.length := by omega
        have HF4 : Hid (filesF rec fs num ws s = (0, 0, sj)) := by
          show _ = _
          rw [k4, List.drop_length, filesF]
        have HM1 := hide m1
        have HF1 := hide f1
        clear m1 f1 k1 k2 k3 k4 HX
        go_wp2_with fail
        go_ret2
        rw [unhide HF4]
        first
          | exact ⟨G, rb', rfl, unhide HM1, (unhide HX2).2.1.trans (unhide HF1)⟩
          | exact ⟨rfl, G, rb', unhide HM1, (unhide HX2).2.1.trans (unhide HF1)⟩
          | exact ⟨rfl, G, ⟨rb', unhide HM1⟩, (unhide HX2).2.1.trans (unhide HF1)⟩
  · have t1 : ((err : Int) != 0) = true := by rw [bne_iff_ne]; omega
    rw [if_pos h1]
    go_enter Tryz.func138, Tryz.ntmps138
    unfold lnV
    go_wp2_with (first
      | (go_at_call 182; refine (unhide CE).mono ?_; clear CE; rintro e w1 ⟨rfl, hb1⟩; have r0 := ((unhide HRW).later hb1).cell? (i := 0) rfl; have HX := hide (unhide HH w1.drew ((unhide HB0).trans (hb1.mono (unhide HB0).size)).drew); clear hb1)
      | fail)
    go_region
    all_goals go_wp2_with fail
    all_goals go_ret2
    all_goals exact ⟨F, rb, rfl, (unhide HX).1, (unhide HX).2.1⟩
end
end Go.Proofs.YtjelacjggijmfaaGreatDoor
namespace Go.Mk
open Go Go.RowKit
variable {P : Program}

/-- The law for the loop over such an iterator, the loop's own block being known. -/
theorem range_law_at {α : Type} {g : Operand} {ps : Array Tmp} {assign body : Code} {Q : Exit → Act → World → Prop} {a : Act} {w : World}
    {gf : Nat} {lb : Array Value} (hg : a.eval g = .func (.func gf) #[] lb) (eg : ∀ args w, (callFunc gf args).run P w = .ok (.enter gf args) w)
    {encs : α → Array Value} {Kp : Nat → World → World → Prop} {L : List α} {w0 : World} (hseq : Iter P gf lb encs Kp L w0)
    (hKt : ∀ {l : Nat} {A B C : World}, Kp l A B → Kp l B C → Kp l A C) (hKb : ∀ (W : World) (l : Nat) (o o' : Obj), w.heap.size ≤ l → W.heap[l]? = some o → o.isCells = false → Kp l W (W.putObj l o'))
    (hb0 : Below w0.heap.size w0 w) (hps : ∀ x, (encs x).size = ps.size)
    (I : List α → World → Prop) (Ix : Code → List α → World → Prop) (hI : OwnFrom w.heap.size I) (hIx : ∀ c, OwnFrom w.heap.size (Ix c)) (h0 : I [] w)
    (Ax : α → Act → World → Prop) (hAx : ∀ x a', OwnFrom w.heap.size (fun (_ : Unit) W => Ax x a' W))
    (hassign : ∀ (pre : List α) (x : α) (post : List α) (W : World) (K : Act → World → Prop), L = pre ++ x :: post → I pre W →
      (∀ a' W', KeepsFrom w.heap.size W W' → Kp (w.heap.size + 1) W W' → I pre W' → Ax x a' W' → K a' W') →
      assign.wpIn (Fence.wide.inRound (w.heap.size + 1)) 9 P (Exit.then K (fun _ _ _ => False)) { tmps := (ps.zip (encs x)).foldl (fun t (p, v) => t.setIfInBounds p v) a.tmps, defers := [] } W)
    (hbody : ∀ (pre : List α) (x : α) (post : List α) (a' : Act) (W : World), L = pre ++ x :: post → I pre W → Ax x a' W →
      body.wpIn (Fence.wide.inRound (w.heap.size + 1)) 9 P (roundPostX w.heap.size (Kp (w.heap.size + 1)) I Ix (pre ++ [x]) W) a' W)
    (hdone : ∀ (D : Nat) (W : World), w.heap.size ≤ D → I L W → W.heap[D]? = some (.deferred (some [])) → Q .normal { a with defers := { target := .collected D, args := #[] } :: a.defers } W)
    (hstop : ∀ (D : Nat) (c : Code) (pre post : List α) (W : World), w.heap.size ≤ D → L = pre ++ post → Ix c pre W → W.heap[D]? = some (.deferred (some [])) →
      c.wpIn Fence.wide 9 P Q { a with defers := { target := .collected D, args := #[] } :: a.defers } W) :
    (Code.rangeFunc g ps assign body).wpIn Fence.wide 9 P Q a w := by
  refine wpIn_rangeFunc fun fn hfn => ?_
  -- the record of the loop, in a state, with a jump that is left to do
  obtain ⟨rc, hrc⟩ : ∃ rc : LoopState → Option Code → Loop, ∀ s p, rc s p = { state := s, pending := p, fn := fn, tmps := a.tmps, params := ps, assign := assign, body := body, defers := w.heap.size } := ⟨_, fun _ _ => rfl⟩
  obtain ⟨V, hV⟩ : ∃ V, V = (w.alloc (.deferred (some []))).alloc (.loop (rc .ready none)) := ⟨_, rfl⟩
  have hVs : V.heap.size = w.heap.size + 2 := by rw [hV]; simp
  have hVl : V.heap[w.heap.size + 1]? = some (.loop (rc .ready none)) := by
    have := World.alloc_heap_new (w.alloc (.deferred (some []))) (.loop (rc .ready none))
    rw [World.size_alloc] at this
    rw [hV]; exact this
  have hVd : V.heap[w.heap.size]? = some (.deferred (some [])) := by
    rw [hV]; exact (Below.heap_alloc _ _ _ (by simp)).trans (World.alloc_heap_new w _)
  -- what the iterator is asked to carry on: the caller's own, and the two blocks of the loop
  obtain ⟨J, hJ⟩ : ∃ J : List α → World → Prop, J = fun pre W => I pre W ∧ W.heap[w.heap.size + 1]? = some (.loop (rc .ready none)) ∧ W.heap[w.heap.size]? = some (.deferred (some [])) := ⟨_, rfl⟩
  obtain ⟨Jx, hJx⟩ : ∃ Jx : List α → World → Prop, Jx = fun pre W => ∃ c, Ix c pre W ∧ W.heap[w.heap.size + 1]? = some (.loop (rc .done (some c))) ∧ W.heap[w.heap.size]? = some (.deferred (some [])) := ⟨_, rfl⟩
  have hJo : OwnFrom V.heap.size J := by
    rw [hJ]
    rintro s X Y row ⟨hi, hl, hd⟩ hgr hr
    have hr' : ∀ r, row = some r → w.heap.size + 2 ≤ r := fun r e => by have := (hr r e).1; omega
    exact ⟨hI s X Y row hi hgr (fun r e => ⟨by have := hr' r e; omega, (hr r e).2⟩), same_below hgr hr' (by omega) hl, same_below hgr hr' (by omega) hd⟩
  have hJxo : OwnFrom V.heap.size Jx := by
    rw [hJx]
    rintro s X Y row ⟨c, hi, hl, hd⟩ hgr hr
    have hr' : ∀ r, row = some r → w.heap.size + 2 ≤ r := fun r e => by have := (hr r e).1; omega
    exact ⟨c, hIx c s X Y row hi hgr (fun r e => ⟨by have := hr' r e; omega, (hr r e).2⟩), same_below hgr hr' (by omega) hl, same_below hgr hr' (by omega) hd⟩
  have hbV : Below w0.heap.size w0 V := by
    rw [hV]; exact (hb0.alloc hb0.size _).alloc (by have := hb0.size; simp; omega) _
  have hJ0 : J [] V := by rw [hJ]; exact ⟨by rw [hV]; exact hI.alloc _ (hI.alloc _ h0), hVl, hVd⟩
  -- a round
  have hround : ∀ pre x post W1, L = pre ++ x :: post → J pre W1 → YieldAt Fence.wide 9 P (w.heap.size + 1) (encs x) W1 fun e W' =>
      (e = .returned (.bool true) ∧ J (pre ++ [x]) W' ∧ Kp (w.heap.size + 1) W1 W') ∨ (e = .returned (.bool false) ∧ Jx (pre ++ [x]) W' ∧ Kp (w.heap.size + 1) W1 W') := by
    intro pre x post W1 hL hj
    rw [hJ] at hj
    obtain ⟨hi, hl, hd⟩ := hj
    have hy := run_yield (P := P) (args := encs x) hl (by rw [hrc]; exact hps x)
    simp only [hrc] at hy
    refine ⟨fn, _, assign, body, hy, roundIn_of_wpIn hfn (hassign pre x post W1 _ hL hi ?_)⟩
    intro a' W2 hkf hkp hi2 hax
    have hl2 := hkf.same _ _ (by omega) hl rfl
    have hd2 := hkf.same _ _ (Nat.le_refl _) hd rfl
    refine ⟨_, run_beginRound hl2 (by rw [hrc]), ?_⟩
    obtain ⟨W3, hW3⟩ : ∃ W3, W3 = W2.putObj (w.heap.size + 1) (.loop { rc .ready none with state := .busy }) := ⟨_, rfl⟩
    rw [← hW3]
    have hlt := (Array.getElem?_eq_some_iff.1 hl2).1
    have hl3 : W3.heap[w.heap.size + 1]? = some (.loop { rc .ready none with state := .busy }) := by rw [hW3]; exact World.putObj_heap_same hlt
    have hd3 : W3.heap[w.heap.size]? = some (.deferred (some [])) := by rw [hW3]; exact (World.putObj_heap_other (by omega)).trans hd2
    have hkp3 : Kp (w.heap.size + 1) W2 W3 := by rw [hW3]; exact hKb _ _ _ _ (by omega) hl2 rfl
    have hi3 : I pre W3 := by rw [hW3]; exact hI.putObj _ hi2 (by omega) hl2 rfl
    have hax3 : Ax x a' W3 := by rw [hW3]; exact (hAx x a').putObj (s := ()) _ hax (by omega) hl2 rfl
    refine wpIn_mono (hbody pre x post a' W3 hL hi3 hax3) ?_
    -- the round's end, by the way in which the body is left
    have fin : ∀ (jump : Option Code) (W4 : World), KeepsFrom w.heap.size W3 W4 → ∃ W5, (Instr.endRound (w.heap.size + 1) jump).run P W4 = .ok (.bool jump.isNone) W5 ∧
        W5 = W4.putObj (w.heap.size + 1) (.loop (rc (if jump.isNone then .ready else .done) jump)) ∧ W4.heap[w.heap.size + 1]? = some (.loop { rc .ready none with state := .busy }) ∧
        W5.heap[w.heap.size + 1]? = some (.loop (rc (if jump.isNone then .ready else .done) jump)) ∧ W5.heap[w.heap.size]? = some (.deferred (some [])) := by
      intro jump W4 hk
      have hl4 := hk.same _ _ (by omega) hl3 rfl
      have hd4 := hk.same _ _ (Nat.le_refl _) hd3 rfl
      have he := run_endRound (P := P) jump hl4
      simp only [hrc] at he
      refine ⟨_, he, by simp only [hrc], hl4, ?_, ?_⟩
      · simp only [hrc]; exact World.putObj_heap_same (Array.getElem?_eq_some_iff.1 hl4).1
      · exact (World.putObj_heap_other (by omega)).trans hd4
    have stop : ∀ (c : Code) (W4 : World), KeepsFrom w.heap.size W3 W4 → Kp (w.heap.size + 1) W3 W4 → Ix c (pre ++ [x]) W4 → ∃ v W5, (Instr.endRound (w.heap.size + 1) (some c)).run P W4 = .ok v W5 ∧
        ((Ending.returned v = .returned (.bool true) ∧ J (pre ++ [x]) W5 ∧ Kp (w.heap.size + 1) W1 W5) ∨ (Ending.returned v = .returned (.bool false) ∧ Jx (pre ++ [x]) W5 ∧ Kp (w.heap.size + 1) W1 W5)) := by
      intro c W4 hk hkp4 hx
      obtain ⟨W5, hr, e5, hl4, hl5, hd5⟩ := fin (some c) W4 hk
      exact ⟨_, W5, hr, .inr ⟨rfl, by rw [hJx]; exact ⟨c, by rw [e5]; exact (hIx c).putObj _ hx (by omega) hl4 rfl, hl5, hd5⟩, hKt hkp (hKt hkp3 (hKt hkp4 (by rw [e5]; exact hKb _ _ _ _ (by omega) hl4 rfl)))⟩⟩
    rintro e a4 W4 hp
    cases e with
    | normal =>
      obtain ⟨hk, hkp4, hi4⟩ := hp
      obtain ⟨W5, hr, e5, hl4, hl5, hd5⟩ := fin none W4 hk
      refine ⟨_, W5, hr, .inl ⟨rfl, by rw [hJ]; exact ⟨by rw [e5]; exact hI.putObj _ hi4 (by omega) hl4 rfl, hl5, hd5⟩, ?_⟩⟩
      exact hKt hkp (hKt hkp3 (hKt hkp4 (by rw [e5]; exact hKb _ _ _ _ (by omega) hl4 rfl)))
    | ret => exact stop _ W4 hp.1 hp.2.1 hp.2.2
    | exit id => exact stop _ W4 hp.1 hp.2.1 hp.2.2
    | goto t => exact stop _ W4 hp.1 hp.2.1 hp.2.2
    | panic ch => exact hp.elim
    | outgrown => exact hp.elim
  refine ⟨w.heap.size + 1, [{ target := .collected w.heap.size, args := #[] }], V, { target := .fn (.func gf) lb, args := #[.func (.yield (w.heap.size + 1)) #[] #[]] }, V, gf,
    #[.func (.yield (w.heap.size + 1)) #[] #[]] ++ lb, V, ?_, ?_, fun _ _ => trivial, ?_, fun h => by simp [Fence.wide] at h, ?_⟩
  · rw [hV, hrc]; exact run_enterLoop_outer _ _ _ _ _
  · simp only [resolve, hg]
    simp [go_sem]
  · simp [invoke, go_sem, eg]
  · refine (callsIn_any (hseq (w.heap.size + 1) J Jx V (by omega) hbV hJo hJxo hround hJ0)).mono ?_
    rintro e W2 ⟨⟨v, rfl⟩, h | ⟨pre, post, hL, h⟩⟩
    · rw [hJ] at h
      obtain ⟨hi, hl, hd⟩ := h
      have he := run_endLoop (P := P) hl (by rw [hrc]; simp)
      simp only [hrc] at he
      exact ⟨none, _, he, hdone _ _ (Nat.le_refl _) (hI.putObj _ hi (by omega) hl rfl) ((World.putObj_heap_other (by omega)).trans hd)⟩
    · rw [hJx] at h
      obtain ⟨c, hi, hl, hd⟩ := h
      have he := run_endLoop (P := P) hl (by rw [hrc]; simp)
      simp only [hrc] at he
      exact ⟨some c, _, he, hstop _ c pre post _ (Nat.le_refl _) hL ((hIx c).putObj _ hi (by omega) hl rfl) ((World.putObj_heap_other (by omega)).trans hd)⟩
end Go.Mk
namespace Go.Proofs.YtjelacjggijmfaaGreatDoor
open Go.RowKit Go.Shelf
attribute [local go_sem] Oper.semAt_some

def encJ (x : Nat × List UInt8) : Array Value := #[.int .i64 x.1, .string ⟨x.2.toArray⟩]
def KpG (W W' : World) : Prop := Glob W → Glob W'
theorem take1_rest : ∀ (ps : List (List UInt8)) (acc : List UInt8) (used : Nat) (p : List UInt8), (Mk.take1 acc used p ps).2.2.length ≤ ps.length
  | [], _, _, _ => Nat.le_refl _
  | q :: qs, acc, used, p => by
    unfold Mk.take1
    split
    · exact Nat.le_trans (take1_rest qs _ _ _) (by simp)
    · exact Nat.le_refl _
/-- What holds between two rounds: what has come, and what is left. -/
structure JoinInv (t : List UInt8) (pre : List (Nat × List UInt8)) (f n : Nat) (rl : List UInt8) (m : Bool) : Prop where
  eq : Mk.joined t = pre ++ Mk.joinF f n (Mk.rs rl m)
  fuel : (Mk.rs rl m).length ≤ f
  num : n + rl.length + (if m then 1 else 0) ≤ t.length + 2
  len : rl.length ≤ t.length
theorem JoinInv.start (t : List UInt8) : JoinInv t [] (Mk.segs t).length 1 t true :=
  ⟨rfl, Nat.le_refl _, by simp only [if_true]; omega, Nat.le_refl _⟩
theorem JoinInv.round {t : List UInt8} {pre : List (Nat × List UInt8)} {f n : Nat} {rl : List UInt8} (h : JoinInv t pre f n rl true) {whole rest : List UInt8} {used : Nat} {more : Bool}
    (he : Mk.take1 [] 1 (Mk.before 10 rl) (Mk.rs (Mk.after 10 rl) (Mk.has 10 rl)) = (whole, used, Mk.rs rest more))
    (hl : whole.length + rest.length + (if more then 1 else 0) ≤ rl.length) (hu : used + rest.length + (if more then 1 else 0) ≤ 1 + rl.length) :
    ∃ g post, Mk.joined t = pre ++ (n, whole) :: post ∧ JoinInv t (pre ++ [(n, whole)]) g (n + used) rest more := by
  obtain ⟨h1, h2, h3, h4⟩ := h
  simp only [if_true] at h3
  have hs : Mk.rs rl true = Mk.before 10 rl :: Mk.rs (Mk.after 10 rl) (Mk.has 10 rl) := Mk.segs_eq rl
  rw [hs] at h1 h2
  rw [List.length_cons] at h2
  obtain ⟨g, rfl⟩ : ∃ g, f = g + 1 := ⟨f - 1, by omega⟩
  rw [Mk.joinF, he] at h1
  have hr := take1_rest (Mk.rs (Mk.after 10 rl) (Mk.has 10 rl)) [] 1 (Mk.before 10 rl)
  rw [he] at hr
  simp only at h1 hr
  exact ⟨g, _, h1, by rw [h1]; simp, by omega, by omega, by omega⟩
theorem JoinInv.done {t : List UInt8} {pre : List (Nat × List UInt8)} {f n : Nat} {rl : List UInt8} (h : JoinInv t pre f n rl false) : Mk.joined t = pre := by
  have := h.eq
  rw [this]
  cases f <;> simp [Mk.rs, Mk.joinF]
set_option maxHeartbeats 1000000 in
theorem joined_iter (t : List UInt8) (Bt : Nat) (w : World) (hT : t.length ≤ 1073741824) (hg : Glob w) (hBt : w.cell? ⟨Bt, 0, none⟩ = some (.string ⟨t.toArray⟩)) :
    Mk.Iter Tryz.prog 156 #[.pointer (some ⟨Bt, 0, none⟩)] encJ (fun _ => KpG) (Mk.joined t) w := by
  intro l J Jx W _ hW hJ hJx hY h0
  have hBt2 : W.cell? ⟨Bt, 0, none⟩ = some (.string ⟨t.toArray⟩) := (hW.cell (p := ⟨Bt, 0, none⟩) (World.block_lt_of_cell? w _ hBt)).trans hBt
  have hgW := hg.later hW
  refine callsIn_of_wp Tryz.func156 rfl trivial ?_
  simp only [Tryz.ntmps156, List.size_toArray, List.length_cons, List.length_nil, Nat.reduceAdd, Nat.reduceSub, Array.replicate_succ, Array.replicate_zero, List.push_toArray, List.append_toArray, List.nil_append, List.cons_append]
  gi_wp2
  gi_region
  gi_wp2
  gi_loopw [3, 4, 5] (fun num rest more wr => ∃ (pre : List (Nat × List UInt8)) (f n : Nat) (rl : List UInt8) (m : Bool), num = .int .i64 n ∧ rest = .string ⟨rl.toArray⟩ ∧ more = .bool m ∧
      Hid (JoinInv t pre f n rl m) ∧ Hid (J pre wr) ∧ Glob wr) (fun _ rest more _ => strLen rest + moreN more)
  case atStart =>
    exact ⟨[], _, 1, t, true, rfl, rfl, rfl, JoinInv.start t, OwnDrew hJ h0, hgW.later (Below.refl _ _).drew⟩
  case round =>
    obtain ⟨pre, f, n, rl, m, rfl, rfl, rfl, hI, hJs, hgr⟩ := hrel
    cases m with
    | false =>
      have HD := hide (unhide hI).done
      gi_wp2
      go_end0
      exact ⟨⟨_, rfl⟩, .inl (by rw [unhide HD]; exact unhide hJs)⟩
    | true =>
      have hrl := (unhide hI).len
      have hnum := (unhide hI).num
      simp only [if_true] at hnum
      gi_wp2_with fail
      refine ⟨trivial, (callsIn_wide.2 (takeLine_any rl _ (by omega) hgr)).mono ?_⟩
      rintro e w2 ⟨whole, used, rest, more, rfl, he, hl, hu, hb⟩
      obtain ⟨g, post, hLeq, hI2⟩ := (unhide hI).round he hl hu
      have hJ2 := OwnBelow hJ (unhide hJs) hb
      obtain ⟨fn, tmps, assign, body, hy, hR⟩ := hY pre (n, whole) post w2 hLeq hJ2
      have HI2 := hide hI2
      have HR := hide hR
      have hg2 := hgr.later hb
      have HX : Hid (∀ W', Jx (pre ++ [(n, whole)]) W' → ∃ pre post, Mk.joined t = pre ++ post ∧ Jx pre W') := fun W' hx => ⟨_, post, by rw [hLeq]; simp, hx⟩
      have HL := hide hl
      clear hI2 hR hLeq he hb hJ2 hJs hI hl
      unfold takeRes
      unfold encJ at hy
      simp only at hy
      gi_wp2_with fail
      refine (Mk.roundIn_any (unhide HR)).mono ?_
      rintro e W3 (⟨rfl, hJ3, hk3⟩ | ⟨rfl, hJx3, -⟩)
      · have HJ3 := hide hJ3
        have hg3 := hk3 hg2
        have hun : used ≤ 1 + rl.length := by omega
        clear hJ3 hk3 hu HR hy
        gi_wp2_with fail
        go_roundw
        case rel => exact ⟨pre ++ [(n, whole)], g, n + used, rest, more, by go_num, rfl, rfl, HI2, HJ3, hg3⟩
        case measure =>
          have h1 : (⟨rest.toArray⟩ : ByteArray).size = rest.length := size_mk _
          have h2 : (⟨rl.toArray⟩ : ByteArray).size = rl.length := size_mk _
          have h3 := unhide HL
          simp only [strLen, moreN, if_true, h1, h2]
          omega
      · gi_wp2_with fail
        refine bodyPost_ret (results_none rfl _ _ _) rfl ?_
        exact ⟨⟨_, rfl⟩, .inr (unhide HX _ hJx3)⟩
end Go.Proofs.YtjelacjggijmfaaGreatDoor
