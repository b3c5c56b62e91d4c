/-
  The document's own answer: a plan is taken apart.
-/
import Derived.Test.YtjelacjggijmfaaGSR2
import Derived.Test.YtjelacjggijmfaaGSB2
import Derived.Test.YtjelacjggijmfaaGSP8
namespace Go.Proofs.Ytjelacjggijmfaa
open Go.RowKit

/-- The strings that have come: whose they are. -/
def Strs (w : World) (B : Nat) (v : Value) (ss : List Pl.Bs) : Prop := w.ownsRow B 9 1 v ss.length (ss.map strV)
theorem Strs.nil (w : World) (B : Nat) : Strs w B (.slice none 0 0) [] := World.ownsRow_nil _ _ _ _
theorem Strs.later {w w' : World} {B : Nat} {v : Value} {ss : List Pl.Bs} (h : Strs w B v ss) (hb : Below w.heap.size w w') : Strs w' B v ss := h.kept (row := none) ⟨hb.os, hb.tape, hb.output, hb.size, fun k hk _ => hb.block k hk⟩ (by cases v.ownBlock <;> simp)
theorem Strs.shape {w : World} {B : Nat} {v : Value} {ss : List Pl.Bs} (h : Strs w B v ss) : ∃ a cap, v = .slice a ss.length cap := by
  rcases h.2 with ⟨h1, h2⟩ | ⟨g, cap, cur, h1, h2, h3, h4, h5, h6, h7⟩
  · exact ⟨none, 0, by rw [h1, h2]⟩
  · exact ⟨_, cap, h1⟩
/-- What Load leaves. -/
structure LoadPost (s : Pl.Bs) (w : World) (e : Ending) (w' : World) : Prop where
  res : (Pl.load s = none ∧ ∃ p, e = .returned (.tuple #[.pointer p, .bool false])) ∨
    ∃ ss c b v, Pl.load s = some (ss, c) ∧ e = .returned (.tuple #[.pointer (some ⟨b, 0, none⟩), .bool true]) ∧ Row w' b 74 [v, .string ⟨c.toArray⟩] ∧ Strs w' (b + 1) v ss ∧ w.heap.size ≤ b
  below : Below w.heap.size w w'
/-- Between two strings: what lies in memory. -/
structure LoadW (w : World) (v : Value) (acc : List Pl.Bs) (W : World) : Prop where
  plan : Row W w.heap.size 74 [v, .string ⟨#[]⟩]
  row : Strs W (w.heap.size + 1) v acc
  below : Below w.heap.size w W
theorem LoadW.later {w : World} {v : Value} {acc : List Pl.Bs} {X Y : World} (h : LoadW w v acc X) (hb : Below X.heap.size X Y) : LoadW w v acc Y :=
  ⟨h.plan.later hb, h.row.later hb, h.below.trans (hb.mono (by have := h.plan.lt; omega))⟩
theorem grown_alloc2 {wr w1 : World} {o : Obj} {r : Option Nat} (h : (wr.alloc o).drew.drew.grownBy w1 r) : wr.grownBy w1 r := (World.grownBy_alloc wr o r).trans ⟨h.os, h.tape, h.output, h.size, h.block⟩
theorem own_ne {w : World} {B e size : Nat} {v : Value} {n : Nat} {xs : List Value} (h : w.ownsRow B e size v n xs) {N : Nat} (hN : N < B) : some N ≠ v.ownBlock := fun e => by have := (h.lt N e.symm).1; omega
theorem LoadW.push {w : World} {v v' : Value} {acc : List Pl.Bs} {piece : Pl.Bs} {X Y : World} (h : LoadW w v acc X) (hg : X.grownBy Y v.ownBlock) (hown : Y.ownsRow (w.heap.size + 1) 9 1 v' (acc.length + 1) (acc.map strV ++ [strV piece])) :
    LoadW w v' (acc ++ [piece]) (Y.setCell ⟨w.heap.size, 0, none⟩ v') := by
  have hne := own_ne h.row (Nat.lt_succ_self w.heap.size)
  have hne' := own_ne hown (Nat.lt_succ_self w.heap.size)
  have hp : Row Y w.heap.size 74 [v, .string ⟨#[]⟩] := h.plan.grown hg hne
  refine ⟨hp.set 0 v', ?_, ?_⟩
  · unfold Strs
    simp only [List.length_append, List.length_cons, List.length_nil, List.map_append, List.map_cons, List.map_nil]
    refine hown.kept (row := some w.heap.size) ⟨rfl, rfl, rfl, by simp [World.setCell], fun k _ hk => Below.heap_setCell Y ⟨w.heap.size, 0, none⟩ v' k (fun e => hk (by rw [show k = w.heap.size from e]))⟩ (.inr (fun e => hne' e.symm))
  · have hb : Below w.heap.size w Y := h.below.trans ⟨hg.os, hg.tape, hg.output, hg.size, fun k hk => hg.block k (by have := h.plan.lt; omega) (own_ne h.row (by omega))⟩
    exact hb.setCell (p := ⟨w.heap.size, 0, none⟩) (Nat.le_refl _) _
theorem two_drop (s : Pl.Bs) (a : Nat) : Pl.two (s.drop a) 0 = Pl.two s a := by
  unfold Pl.two
  simp [List.getD_eq_getElem?_getD]
theorem take_ahead (l : List UInt8) : (((⟨l.toArray⟩ : ByteArray).extract 0 2).toList == [80, 49]) = decide (l.take 2 = [80, 49]) := by
  rw [Lib.extract_toList, mk_list, Bool.eq_iff_iff]
  simp
set_option maxHeartbeats 2000000 in
set_option maxRecDepth 20000 in
theorem load_any (l : List UInt8) (w : World) (hl : l.length ≤ 1048576) :
    Calls Try.prog 19 #[.string ⟨l.toArray⟩] w fun e w' => LoadPost l w e w' := by
  have hsz := size_mk l
  have hah := take_ahead l
  have hdl := mk_list l
  by_cases h4 : 4 ≤ l.length
  · have hs4 : (4 : Int) ≤ (⟨l.toArray⟩ : ByteArray).size := by rw [hsz]; omega
    by_cases h2 : l.take 2 = [80, 49]
    · rw [decide_eq_true h2] at hah
      have C0 := hide (fun w => refTwo_any ⟨l.toArray⟩ 2 w (by rw [hsz]; omega) (by rw [hsz]; exact hl))
      rw [hdl] at C0
      by_cases hn : Pl.two l 2 ≤ 1000
      · have HLD : Hid (Pl.load l = Pl.strs (Pl.two l 2) (l.drop 4)) := by
          show _ = _
          unfold Pl.load; rw [if_pos ⟨h4, h2, hn⟩]
        have HS0 := hide (SplitI.start l (Pl.two l 2))
        generalize Pl.two l 2 = n at *
        have hn' : (n : Int) ≤ 1000 := by omega
        have HL := hide hl
        generalize hS : (⟨l.toArray⟩ : ByteArray) = S at *
        have HSZ := hide hsz
        have hS2 : 2 ≤ S.size := by omega
        have d4 : decide ((S.size : Int) < 4) = false := by rw [decide_eq_false_iff_not]; omega
        clear h2 hdl hl hsz
        go_enter Try.func19, Try.ntmps19
        go_wp2_with fail
        refine (unhide C0 _).mono ?_
        rintro e w1 ⟨rfl, rfl⟩
        go_wp2_with fail
        have HW0 : Hid (LoadW w (.slice none 0 0) [] (w.alloc (.cells #[.slice none 0 0, .string ⟨#[]⟩] 74)).drew) :=
          ⟨Row.new w 74 [.slice none 0 0, .string ⟨#[]⟩], Strs.nil _ _, ((Below.refl _ w).alloc (Nat.le_refl _) _).drew⟩
        obtain ⟨i0, hi, hz0, hz1, hz2⟩ := info_parts Try.infoStr
        have HI0 := hide hi
        have HZ0 := hide hz0
        have HZ1 := hide hz1
        have HZ2 := hide hz2
        have HSS := hide hS
        clear hah hs4 hS2 d4 C0 hi hz0 hz1 hz2 hS
        go_loopw [6, 7] (fun at_ i wr => ∃ (p k : Nat) (acc : List Pl.Bs) (v : Value), at_ = .int .i64 p ∧ i = .int .i64 k ∧ p ≤ S.size ∧ Hid (SplitI l n k (l.drop p) acc) ∧ Hid (LoadW w v acc wr)) (fun _ i _ => n - intN i)
        case atStart => exact ⟨4, 0, [], _, rfl, rfl, by rw [unhide HSZ]; exact h4, HS0, HW0⟩
        case round =>
          obtain ⟨p, k, acc, v, rfl, rfl, hpl, hI, hW⟩ := hrel
          have hSl : S.size ≤ 1048576 := by rw [unhide HSZ]; exact unhide HL
          by_cases hk : k < n
          · by_cases h2 : p + 2 ≤ S.size
            · have C := hide (fun w => refTwo_any S p w h2 hSl)
              have hdl : S.data.toList = l := by rw [← unhide HSS]
              rw [hdl] at C
              have htd := two_drop l p
              have hkk := Pl.two_lt l p
              by_cases h3 : p + 2 + Pl.two l p ≤ S.size
              · have hr : 2 ≤ (l.drop p).length ∧ 2 + Pl.two (l.drop p) 0 ≤ (l.drop p).length := by
                  rw [htd, List.length_drop, ← unhide HSZ]; omega
                have HN := hide ((unhide hI).next hk hr)
                rw [htd, List.drop_drop] at HN
                obtain ⟨q, hq⟩ : ∃ q, q = p + 2 := ⟨_, rfl⟩
                obtain ⟨t, ht⟩ : ∃ t, t = p + 2 + Pl.two l p := ⟨_, rfl⟩
                have hpc : S.extract q t = ⟨(((l.drop p).drop 2).take (Pl.two l p)).toArray⟩ := by
                  apply mk_eq
                  rw [Lib.extract_data, hdl, List.drop_drop, hq, ht]
                  congr 1; omega
                rw [show p + (2 + Pl.two l p) = t from by omega] at HN
                generalize ((l.drop p).drop 2).take (Pl.two l p) = piece at *
                generalize Pl.two l p = kk at *
                have e1 : IntKind.i64.wrap ((p : Int) + 2) = (q : Int) := by simp [IntKind.wrap, IntKind.signed, IntKind.bits]; omega
                have e2 : IntKind.i64.wrap ((q : Int) + (kk : Int)) = (t : Int) := by simp [IntKind.wrap, IntKind.signed, IntKind.bits]; omega
                have hlen := (unhide hI).len
                obtain ⟨a, cap, rfl⟩ := (unhide hW).row.shape
                have hplan := (unhide hW).plan
                have hrow := (unhide hW).row
                have c0 := hplan.cell 0 (by simp)
                have f0 := hplan.frozen 0
                simp only [List.getElem_cons_zero] at c0
                have hNw := hplan.lt
                have i1 : q ≤ t := by omega
                have i2 : t ≤ S.size := by omega
                have HPC := hide hpc
                have E1 := hide e1
                have E2 := hide e2
                have HT := hide ht
                have HR := hide hrow
                have HPL := hide hplan
                have hacc : acc.length < 1000 := by omega
                clear hI hdl htd hr hpc e1 e2 hrow hplan hlen ht hq hkk
                go_wp2_with fail
                refine (unhide C _).mono ?_
                rintro e w1 ⟨rfl, rfl⟩
                go_wp2_with fail
                have e1 := unhide E1
                have e2 := unhide E2
                go_region_law (refine step_append_own rfl (.tmp 49) (.tmp 58) 39 rfl (w.heap.size + 1) 9 i0 (.string ⟨#[]⟩) 1 16 Try.underlying39 (unhide HI0) (unhide HZ0) (unhide HZ1) (unhide HZ2) rfl (by decide) _ acc.length _ (by simp [Act.eval]) ((unhide HR).alloc _) ⟨_, 0, none⟩ 1 1 [.string (S.extract q t)] (by simp [Act.eval]) rfl (cell_one_new _ _ _) (by intro u hu; simp at hu; subst hu; rfl) (by unfold maxLen; omega) (by omega) (by simp; omega) ?_; intro v1 w1 hown1 hgrow1; obtain ⟨g1, cp1, rfl, hg1, hg2⟩ := owns_form hown1 (by omega); have HG1 := hide (grown_alloc2 hgrow1); have hp1 := (unhide HPL).grown (unhide HG1) (own_ne (unhide HR) (Nat.lt_succ_self _)); have d0 := hp1.cell 0 (by simp); have g0 := hp1.frozen 0; simp only [List.getElem_cons_zero] at d0; have HO1 := hide hown1; clear hown1 hgrow1 hp1)
                all_goals go_wp2_with fail
                all_goals go_roundw
                all_goals first
                  | exact ⟨t, k + 1, acc ++ [piece], _, rfl, by go_num, by omega, HN, (unhide hW).push (unhide HG1) (by have := unhide HO1; rw [unhide HPC] at this; exact this)⟩
                  | (simp only [intN]; omega)
              · have HN := hide ((unhide hI).bad hk (by rw [htd, List.length_drop, ← unhide HSZ]; omega))
                generalize Pl.two l p = kk at *
                have hlt := (unhide hW).plan.lt
                have h3' : (S.size : Int) < (p : Int) + 2 + (kk : Int) := by omega
                clear hI hdl htd
                go_wp2_with fail
                refine (unhide C _).mono ?_
                rintro e w1 ⟨rfl, rfl⟩
                go_wp2_with fail
                refine bodyPost_ret (v := .tuple #[.pointer (some ⟨w.heap.size, 0, none⟩), .bool false]) ?_ rfl ⟨.inl ⟨(unhide HLD).trans (unhide HN), _, rfl⟩, (unhide hW).below.drew⟩
                simp [results, Try.results19, go_sem]
            · have C := hide (fun w => refTwo_not S p w (by omega) (by omega))
              have HN := hide ((unhide hI).bad hk (by rw [List.length_drop, ← unhide HSZ]; omega))
              clear hI
              go_wp2_with fail
              refine (unhide C _).mono ?_
              rintro e w1 ⟨rfl, rfl⟩
              go_wp2_with fail
              refine bodyPost_ret (v := .tuple #[.pointer (some ⟨w.heap.size, 0, none⟩), .bool false]) ?_ rfl ⟨.inl ⟨(unhide HLD).trans (unhide HN), _, rfl⟩, (unhide hW).below⟩
              simp [results, Try.results19, go_sem]
          · obtain ⟨hd1, hd2⟩ := (unhide hI).done hk
            have HLD2 := hide ((unhide HLD).trans hd1)
            have hext : S.extract p S.size = ⟨(l.drop p).toArray⟩ := by
              apply mk_eq
              rw [Lib.extract_to_end, ← unhide HSS]
            have HEX := hide hext
            have c1 := (unhide hW).plan.cell 1 (by simp)
            have f1 := (unhide hW).plan.frozen 1
            simp only [List.getElem_cons_zero, List.getElem_cons_succ] at c1
            clear hI hext hd1 hd2
            go_wp2_with fail
            have hne := own_ne (unhide hW).row (Nat.lt_succ_self w.heap.size)
            refine bodyPost_ret (v := .tuple #[.pointer (some ⟨w.heap.size, 0, none⟩), .bool true]) ?_ rfl ⟨.inr ⟨acc, l.drop p, w.heap.size, v, unhide HLD2, rfl, ?_, ?_, Nat.le_refl _⟩, (unhide hW).below.setCell (p := ⟨w.heap.size, 1, none⟩) (Nat.le_refl _) _⟩
            · simp [results, Try.results19, go_sem]
            · rw [← unhide HEX]; exact (unhide hW).plan.set 1 _
            · refine (unhide hW).row.kept (row := some w.heap.size) ⟨rfl, rfl, rfl, by simp [World.setCell], fun k _ hk => Below.heap_setCell wr ⟨w.heap.size, 1, none⟩ _ k (fun e => hk (by rw [show k = w.heap.size from e]))⟩ (.inr (fun e => hne e.symm))
      · have HLD : Hid (Pl.load l = none) := by
          show _ = _
          unfold Pl.load; rw [if_neg (fun e => hn e.2.2)]
        generalize Pl.two l 2 = n at *
        have hn' : (1000 : Int) < n := by omega
        generalize hS : (⟨l.toArray⟩ : ByteArray) = S at *
        have hS2 : 2 ≤ S.size := by omega
        have d4 : decide ((S.size : Int) < 4) = false := by rw [decide_eq_false_iff_not]; omega
        clear h2 hdl hl hsz hS
        go_enter Try.func19, Try.ntmps19
        go_wp2_with fail
        refine (unhide C0 _).mono ?_
        rintro e w1 ⟨rfl, rfl⟩
        go_wp2_with fail
        refine bodyPost_ret (v := .tuple #[.pointer (some ⟨w.heap.size, 0, none⟩), .bool false]) ?_ rfl ⟨.inl ⟨unhide HLD, _, rfl⟩, ((Below.refl _ w).alloc (Nat.le_refl _) _).drew⟩
        simp [results, Try.results19, go_sem]
    · rw [decide_eq_false h2] at hah
      have HLD : Hid (Pl.load l = none) := by
        show _ = _
        unfold Pl.load; rw [if_neg (fun e => h2 e.2.1)]
      generalize hS : (⟨l.toArray⟩ : ByteArray) = S at *
      have hS2 : 2 ≤ S.size := by omega
      have d4 : decide ((S.size : Int) < 4) = false := by rw [decide_eq_false_iff_not]; omega
      clear h2 hdl hl hsz hS
      go_enter Try.func19, Try.ntmps19
      go_wp2_with fail
      refine bodyPost_ret (v := .tuple #[.pointer (some ⟨w.heap.size, 0, none⟩), .bool false]) ?_ rfl ⟨.inl ⟨unhide HLD, _, rfl⟩, (Below.refl _ w).alloc (Nat.le_refl _) _⟩
      simp [results, Try.results19, go_sem]
  · have HLD : Hid (Pl.load l = none) := by
      show _ = _
      unfold Pl.load; rw [if_neg (fun e => h4 e.1)]
    generalize hS : (⟨l.toArray⟩ : ByteArray) = S at *
    have d4 : decide ((S.size : Int) < 4) = true := by rw [decide_eq_true_eq]; omega
    have hlt4 : (S.size : Int) < 4 := by omega
    clear hdl hl hsz hS hah h4
    go_enter Try.func19, Try.ntmps19
    go_wp2_with fail
    refine bodyPost_ret (v := .tuple #[.pointer (some ⟨w.heap.size, 0, none⟩), .bool false]) ?_ rfl ⟨.inl ⟨unhide HLD, _, rfl⟩, (Below.refl _ w).alloc (Nat.le_refl _) _⟩
    simp [results, Try.results19, go_sem]
end Go.Proofs.Ytjelacjggijmfaa
