/-
  Once of package makerkeep: the walk.
-/
import Derived.Test.YtjelacjggijmfaaGreatDoorVKX7
set_option maxHeartbeats 8000000
set_option maxRecDepth 100000
namespace Go.Proofs.YtjelacjggijmfaaGreatDoor
open Go.RowKit
theorem once_walk {N T : List Int} (W : World) (an at' : Option Addr) (cn ct : Nat) (goal : Int) (g : Nat) (hg : g < manyW N) (ov : List Nat) (fl : List Pl.File) (cs : List Pl.Bs) (S : Nat → Bool) (hcs : cs = (ov.filter S).map wNm) (hcl : cs.length ≤ 12) (hS : ∀ x,x < manyW N → S x = stl (JW N) (timeW T) (manyW N) x)
 (CW : Hid (∀ w',Below W.heap.size W w' → WbC w' (.agg #[.slice an N.length cn,.slice at' T.length ct]) N T))
 (CP : Hid (∀ w',Calls Tryz.prog 31 #[.int .i64 goal,.int .i64 (manyW N : Int)] w' fun e w2 => e = .returned (.int .i64 (g : Int)) ∧ w2 = w'))
 (CL : Hid (∀ w',Below W.heap.size W w' → Calls Tryz.prog 26 #[] w' fun e w2 => e = .returned (.bool true) ∧ Below w'.heap.size w' w2))
 (CK : Hid (∀ w' cap b ce be L,Below W.heap.size W w' → RdF w' b 0 (filesW N T) → b < w'.heap.size → L ≤ w'.heap.size → RdE w' L be 0 (doesW N fun _ => 0) → Calls Tryz.prog 20 #[.slice (some ⟨b,0,none⟩) (filesW N T).length cap,.string ⟨#[82]⟩,.string ⟨(Mk.nmB g).toArray⟩,.slice (some ⟨be,0,none⟩) (manyW N) ce,.int .i64 100] w' fun e w2 => OvOk N g ov ∧ ∃ a1 c1 b1 a2 c2 b2,e = .returned (.tuple #[.agg #[.slice a1 cs.length c1,.slice a2 fl.length c2,.int .i64 0,.int .i64 (100 + cs.length)],.int .i64 0,.int .i64 0]) ∧ Res cs fl a1 a2 b1 b2 w2 ∧ ((0 < cs.length → w'.heap.size ≤ b1) ∧ (0 < fl.length → w'.heap.size ≤ b2)) ∧ Below w'.heap.size w' w2))
 (CA : Hid (∀ w' c a cap b,(0 < cs.length → a = some ⟨b,0,none⟩) → RdS w' b 0 cs → OvOk N g ov → Calls Tryz.prog 38 #[.slice a cs.length cap,.string ⟨c.toArray⟩] w' fun e w2 => e = .returned (.int .i64 (atI cs c)) ∧ w2 = w')) :
 Calls Tryz.prog 8 #[.agg #[.slice an N.length cn,.slice at' T.length ct],.int .i64 goal] W fun e w' => e = .returned (.bool true) ∧ Below W.heap.size W w' := by
 have hb0 : Below W.heap.size W (W.alloc (.cells #[.slice an N.length cn,.slice at' T.length ct] 76)) := (Below.refl _ _).alloc (Nat.le_refl _) _
 have hR := Row.new W 76 [.slice an N.length cn,.slice at' T.length ct]
 have hs0 : (W.alloc (.cells #[.slice an N.length cn,.slice at' T.length ct] 76)).heap.size = W.heap.size + 1 := World.size_alloc _ _
 generalize hW0 : W.alloc (.cells #[.slice an N.length cn,.slice at' T.length ct] 76) = W0 at *
 have hbw : ∀ w',Below W0.heap.size W0 w' → Below W.heap.size W w' := fun w' hb => hb0.trans (hb.mono (by omega))
 have hm := many_le N
 have HC : Hid (∀ w',Below W0.heap.size W0 w' → w'.cell? ⟨W.heap.size,0,none⟩ = some (.slice an N.length cn) ∧ w'.cell? ⟨W.heap.size,1,none⟩ = some (.slice at' T.length ct)) := fun w' hb => ⟨(hR.later hb).cell 0 (by simp),(hR.later hb).cell 1 (by simp)⟩
 have HNE : Hid (∀ n,W0.heap.size ≤ n → n ≠ W.heap.size) := fun n h => by omega
 have HBW := hide hbw
 have C : Hid (WbC W0 (.agg #[.slice an N.length cn,.slice at' T.length ct]) N T) := uh CW W0 hb0
 have HB := hide (Below.refl W0.heap.size W0)
 obtain ⟨c0,c1⟩ := uh HC W0 (uh HB)
 have HS := hide hS
 have HCS := hide hcs
 clear hR hb0 hs0 hbw CW hS hcs
 go_enter Tryz.func8,Tryz.ntmps8
 go_wp2_with (first
  | (go_at_call 32; refine ((uh C).many _ (uh HB)).mono ?_; rintro e w1 ⟨rfl,hb1⟩; have HB1 := hide ((uh HB).trans (hb1.mono (uh HB).size)); clear hb1 HB c0 c1; have HB := HB1; clear HB1; obtain ⟨c0,c1⟩ := uh HC _ (uh HB))
  | (go_at_call 31; refine (uh CP _).mono ?_; rintro e w2 ⟨rfl,rfl⟩)
  | fail)
 have z2 := uh HNE _ (uh HB).size
 have HBd : Hid (Below W0.heap.size W0 w2.drew) := (uh HB).drew
 obtain ⟨c2,c3⟩ := uh HC _ (uh HBd)
 have HBa : Hid (Below W0.heap.size W0 (w2.alloc (.cells #[.slice none 0 0,.slice none 0 0,.int .i64 0,.int .i64 0] 48)).drew) := ((uh HB).alloc (uh HB).size _).drew
 obtain ⟨c4,c5⟩ := uh HC _ (uh HBa)
 clear c0 c1
 clear hW0
 refine region_cut [22,23,24,25,26,27,28,21,29,30,31,6,7,8] (fun T w' => ∃ rb a1 c1 b1 a2 c2 b2,T 6 = .pointer (some ⟨rb,0,none⟩) ∧ T 7 = .int .i64 0 ∧ T 8 = .int .i64 0 ∧ OvOk N g ov ∧ ResM W0 w' rb cs fl a1 c1 b1 a2 c2 b2 0 (100 + cs.length)) ?_ ?_
 · go_region_held3 (fun w' => w'.cell? ⟨W.heap.size,0,none⟩ = some (.slice an N.length cn) ∧ w'.cell? ⟨W.heap.size,1,none⟩ = some (.slice at' T.length ct)) (first | (with_reducible exact ⟨c2,c3⟩) | (with_reducible exact ⟨c4,c5⟩) | (with_reducible exact ⟨d30,d31⟩) | (with_reducible exact ⟨d32,d33⟩) | (with_reducible exact ⟨d40,d41⟩) | (with_reducible exact ⟨d42,d43⟩) | (with_reducible exact ⟨d50,d51⟩) | (with_reducible exact ⟨d52,d53⟩) | (with_reducible exact ⟨d60,d61⟩) | (with_reducible exact ⟨d62,d63⟩) | go_keep) (first
    | (go_at_call 33; refine ((uh C).files _ ?_).mono ?_; (first | (with_reducible exact uh HBd) | (with_reducible exact uh HBa)); rintro e w3 ⟨fa,fc,fb,rfl,rfl,hf,hfb,hb3⟩; have HB3 : Hid (Below W0.heap.size W0 w3) := hide (by first | (with_reducible exact (uh HBd).trans (hb3.mono (uh HBd).size)) | (with_reducible exact (uh HBa).trans (hb3.mono (uh HBa).size))); have HF := hide hf; obtain ⟨d30,d31⟩ := uh HC _ (uh HB3); obtain ⟨d32,d33⟩ := uh HC _ ((uh HB3).alloc (uh HB3).size (.cells #[.slice none 0 0,.slice none 0 0,.int .i64 0,.int .i64 0] 48)); have z3 := uh HNE _ (uh HB3).size; (try ((with_reducible have HX3 : Hid (Row w3 w2.heap.size 48 boxZ) := hide ((Row.new w2 48 boxZ).drew.later hb3)); have HG3 : Hid (W0.heap.size ≤ w2.heap.size) := (uh HBd).size; have HQ3 : Hid (w2.heap.size < (w2.alloc (.cells #[.slice none 0 0,.slice none 0 0,.int .i64 0,.int .i64 0] 48)).heap.size) := hide (by rw [World.size_alloc]; exact Nat.lt_succ_self _); have x30 := (uh HX3).cell 0 (by decide); have x31 := (uh HX3).cell 1 (by decide); have x32 := (uh HX3).cell 2 (by decide); have x33 := (uh HX3).cell 3 (by decide); have y30 := (uh HX3).frozen 0; have y31 := (uh HX3).frozen 1; have y32 := (uh HX3).frozen 2; have y33 := (uh HX3).frozen 3; simp only [boxZ,List.getElem_cons_zero,List.getElem_cons_succ] at x30 x31 x32 x33)); clear hb3 hf)
    | (go_at_call 34; refine ((uh C).name _ g (by omega)).mono ?_; rintro e w4 ⟨rfl,hb4⟩; have HL4 : Hid (Below w3.heap.size w3 w4) := hide (by first | (with_reducible exact hb4) | exact ((Below.refl _ w3).alloc (Nat.le_refl _) _).trans (hb4.mono ((Below.refl _ w3).alloc (Nat.le_refl _) _).size)); have HB4 := hide ((uh HB3).trans ((uh HL4).mono (uh HB3).size)); have HF4 := hide ((uh HF).below (uh HL4) hfb); have hfb4 := Nat.lt_of_lt_of_le hfb (uh HL4).size; obtain ⟨d40,d41⟩ := uh HC _ (uh HB4); obtain ⟨d42,d43⟩ := uh HC _ ((uh HB4).alloc (uh HB4).size (.cells #[.slice none 0 0,.slice none 0 0,.int .i64 0,.int .i64 0] 48)); have z4 := uh HNE _ (uh HB4).size; (try ((with_reducible have HX4 := hide ((uh HX3).later hb4)); have HG4 := HG3; have HQ4 := hide (uh HX3).lt; clear HX3 HG3 HQ3; have x40 := (uh HX4).cell 0 (by decide); have x41 := (uh HX4).cell 1 (by decide); have x42 := (uh HX4).cell 2 (by decide); have x43 := (uh HX4).cell 3 (by decide); have y40 := (uh HX4).frozen 0; have y41 := (uh HX4).frozen 1; have y42 := (uh HX4).frozen 2; have y43 := (uh HX4).frozen 3; simp only [boxZ,List.getElem_cons_zero,List.getElem_cons_succ] at x40 x41 x42 x43)); (try ((with_reducible have HX4 : Hid (Row w4 w3.heap.size 48 boxZ) := hide ((Row.new w3 48 boxZ).later hb4)); have HG4 : Hid (W0.heap.size ≤ w3.heap.size) := (uh HB3).size; have HQ4 : Hid (w3.heap.size < (w3.alloc (.cells #[.slice none 0 0,.slice none 0 0,.int .i64 0,.int .i64 0] 48)).heap.size) := hide (by rw [World.size_alloc]; exact Nat.lt_succ_self _); have x40 := (uh HX4).cell 0 (by decide); have x41 := (uh HX4).cell 1 (by decide); have x42 := (uh HX4).cell 2 (by decide); have x43 := (uh HX4).cell 3 (by decide); have y40 := (uh HX4).frozen 0; have y41 := (uh HX4).frozen 1; have y42 := (uh HX4).frozen 2; have y43 := (uh HX4).frozen 3; simp only [boxZ,List.getElem_cons_zero,List.getElem_cons_succ] at x40 x41 x42 x43)); clear hb4)
    | (go_at_call 35; refine ((uh C).does _ ?_).mono ?_; (first | (with_reducible exact uh HB4) | exact (uh HB4).alloc (uh HB4).size _); rintro e w5 ⟨be,ce,rfl,-,hE,hb5⟩; have HL5 : Hid (Below w4.heap.size w4 w5) := hide (by first | (with_reducible exact hb5) | exact ((Below.refl _ w4).alloc (Nat.le_refl _) _).trans (hb5.mono ((Below.refl _ w4).alloc (Nat.le_refl _) _).size)); have HB5 := hide ((uh HB4).trans ((uh HL5).mono (uh HB4).size)); have HF5 := hide ((uh HF4).below (uh HL5) hfb4); have hfb5 := Nat.lt_of_lt_of_le hfb4 (uh HL5).size; have HE := hide hE; obtain ⟨d50,d51⟩ := uh HC _ (uh HB5); obtain ⟨d52,d53⟩ := uh HC _ ((uh HB5).alloc (uh HB5).size (.cells #[.slice none 0 0,.slice none 0 0,.int .i64 0,.int .i64 0] 48)); have z5 := uh HNE _ (uh HB5).size; (try ((with_reducible have HX5 := hide ((uh HX4).later hb5)); have HG5 := HG4; have HQ5 := hide (uh HX4).lt; clear HX4 HG4 HQ4; have x50 := (uh HX5).cell 0 (by decide); have x51 := (uh HX5).cell 1 (by decide); have x52 := (uh HX5).cell 2 (by decide); have x53 := (uh HX5).cell 3 (by decide); have y50 := (uh HX5).frozen 0; have y51 := (uh HX5).frozen 1; have y52 := (uh HX5).frozen 2; have y53 := (uh HX5).frozen 3; simp only [boxZ,List.getElem_cons_zero,List.getElem_cons_succ] at x50 x51 x52 x53)); (try ((with_reducible have HX5 : Hid (Row w5 w4.heap.size 48 boxZ) := hide ((Row.new w4 48 boxZ).later hb5)); have HG5 : Hid (W0.heap.size ≤ w4.heap.size) := (uh HB4).size; have HQ5 : Hid (w4.heap.size < (w4.alloc (.cells #[.slice none 0 0,.slice none 0 0,.int .i64 0,.int .i64 0] 48)).heap.size) := hide (by rw [World.size_alloc]; exact Nat.lt_succ_self _); have x50 := (uh HX5).cell 0 (by decide); have x51 := (uh HX5).cell 1 (by decide); have x52 := (uh HX5).cell 2 (by decide); have x53 := (uh HX5).cell 3 (by decide); have y50 := (uh HX5).frozen 0; have y51 := (uh HX5).frozen 1; have y52 := (uh HX5).frozen 2; have y53 := (uh HX5).frozen 3; simp only [boxZ,List.getElem_cons_zero,List.getElem_cons_succ] at x50 x51 x52 x53)); clear hb5 hE)
    | (go_at_call 20; refine (uh CK _ fc fb ce be w5.heap.size ?_ ?_ ?_ ?_ ?_).mono ?_; (first | (with_reducible exact uh HBW _ (uh HB5)) | exact uh HBW _ ((uh HB5).alloc (uh HB5).size _)); (first | (with_reducible exact uh HF5) | exact (uh HF5).below ((Below.refl _ w5).alloc (Nat.le_refl _) _) hfb5); (first | (with_reducible exact hfb5) | exact Nat.lt_of_lt_of_le hfb5 ((Below.refl _ w5).alloc (Nat.le_refl _) _).size); (first | (with_reducible exact Nat.le_refl _) | exact ((Below.refl _ w5).alloc (Nat.le_refl _) _).size); (first | (with_reducible exact uh HE) | exact (uh HE).below ((Below.refl _ w5).alloc (Nat.le_refl _) _)); rintro e w6 ⟨hov,a1,c1',b1,a2,c2,b2,rfl,hres,hge,hb6⟩; have HL6 : Hid (Below w5.heap.size w5 w6) := hide (by first | (with_reducible exact hb6) | exact ((Below.refl _ w5).alloc (Nat.le_refl _) _).trans (hb6.mono ((Below.refl _ w5).alloc (Nat.le_refl _) _).size)); have HB6 := hide ((uh HB5).trans ((uh HL6).mono (uh HB5).size)); have HOV := hide hov; have HRS := hide hres; have HGE := hide hge; obtain ⟨d60,d61⟩ := uh HC _ (uh HB6); obtain ⟨d62,d63⟩ := uh HC _ ((uh HB6).alloc (uh HB6).size (.cells #[.slice none 0 0,.slice none 0 0,.int .i64 0,.int .i64 0] 48)); have z6 := uh HNE _ (uh HB6).size; (try ((with_reducible have HX6 := hide ((uh HX5).later hb6)); have HG6 := HG5; have HQ6 := hide (uh HX5).lt; clear HX5 HG5 HQ5; have x60 := (uh HX6).cell 0 (by decide); have x61 := (uh HX6).cell 1 (by decide); have x62 := (uh HX6).cell 2 (by decide); have x63 := (uh HX6).cell 3 (by decide); have y60 := (uh HX6).frozen 0; have y61 := (uh HX6).frozen 1; have y62 := (uh HX6).frozen 2; have y63 := (uh HX6).frozen 3; simp only [boxZ,List.getElem_cons_zero,List.getElem_cons_succ] at x60 x61 x62 x63)); (try ((with_reducible have HX6 : Hid (Row w6 w5.heap.size 48 boxZ) := hide ((Row.new w5 48 boxZ).later hb6)); have HG6 : Hid (W0.heap.size ≤ w5.heap.size) := (uh HB5).size; have HQ6 : Hid (w5.heap.size < (w5.alloc (.cells #[.slice none 0 0,.slice none 0 0,.int .i64 0,.int .i64 0] 48)).heap.size) := hide (by rw [World.size_alloc]; exact Nat.lt_succ_self _); have x60 := (uh HX6).cell 0 (by decide); have x61 := (uh HX6).cell 1 (by decide); have x62 := (uh HX6).cell 2 (by decide); have x63 := (uh HX6).cell 3 (by decide); have y60 := (uh HX6).frozen 0; have y61 := (uh HX6).frozen 1; have y62 := (uh HX6).frozen 2; have y63 := (uh HX6).frozen 3; simp only [boxZ,List.getElem_cons_zero,List.getElem_cons_succ] at x60 x61 x62 x63)); clear hb6 hov hres hge))
   all_goals refine cut_last (by kernel_rfl) ⟨_,a1,c1',b1,a2,c2,b2,rfl,rfl,rfl,uh HOV,?_⟩
   all_goals first
    | exact ResM.new (uh HB6) (uh HRS)
    | exact ResM.set (uh HB6) (uh HRS) (uh HX6) (uh HG6) (fun q => Nat.lt_of_lt_of_le (uh HQ6) ((uh HGE).1 q)) (fun q => Nat.lt_of_lt_of_le (uh HQ6) ((uh HGE).2 q))
 · rintro T' w6 ⟨rb,a1,k1,b1,a2,k2,b2,h6,h7,h8,hov,hres⟩
   simp only [putTs,List.foldl_cons,List.foldl_nil,h6,h7,h8,List.setIfInBounds_toArray,List.set_cons_succ,List.set_cons_zero]
   have HOV := hide hov
   have HR := hide hres
   have HBX : Hid (∀ w',ResM W0 w' rb cs fl a1 k1 b1 a2 k2 b2 0 (100 + cs.length) → w'.cell? ⟨rb,0,none⟩ = some (.slice a1 cs.length k1) ∧ w'.cell? ⟨rb,1,none⟩ = some (.slice a2 fl.length k2) ∧ w'.cell? ⟨rb,2,none⟩ = some (.int .i64 0) ∧ w'.cell? ⟨rb,3,none⟩ = some (.int .i64 (100 + cs.length))) := fun w' h => ⟨h.box.cell 0 (by simp),h.box.cell 1 (by simp),h.box.cell 2 (by simp),h.box.cell 3 (by simp)⟩
   clear hov hres h6 h7 h8 HB HBd HBa CP CK c2 c3 c4 c5 z2
   have tw : wrap64 (100 + (cs.length : Int)) = 100 + (cs.length : Int) := by unfold wrap64; omega
   go_wp2_with (first
    | (go_at_call 26; refine (uh CL _ (uh HBW _ (uh HR).below)).mono ?_; rintro e w7 ⟨rfl,hb7⟩; have HR7 := hide ((uh HR).later hb7); clear HR hb7; have HR := HR7; clear HR7; obtain ⟨q0,q1,q2,q3⟩ := uh HBX _ (uh HR); obtain ⟨c0,c1⟩ := uh HC _ (uh HR).below)
    | (go_at_call 36; refine ((uh C).reached _ g hg (uh HR).below).mono ?_; rintro e w8 ⟨kb,R,rfl,hrow,hRall,hb8⟩; have HR8 := hide ((uh HR).later hb8); have HK := hide hrow; have HRA := hide hRall; clear HR hb8 hrow hRall c0 c1 q0 q1 q2 q3; have HR := HR8; clear HR8; obtain ⟨c0,c1⟩ := uh HC _ (uh HR).below)
    | (go_at_call 37; refine ((uh C).stale _ (uh HR).below).mono ?_; rintro e w9 ⟨sb,Q,rfl,hrow,hQ,hb9⟩; have HR9 := hide ((uh HR).later hb9); have HK9 := hide ((uh HK).later hb9); have HT := hide hrow; have HQ := hide hQ; clear HR HK hb9 hrow hQ c0 c1; have HR := HR9; have HK := HK9; clear HR9 HK9)
    | fail)
   have H9 := hide (Below.refl w9.heap.size w9)
   go_loopw [12,13] (fun tv iv wr => ∃ i : Nat,iv = .int .i64 i ∧ i ≤ manyW N ∧ tv = .int .i64 (cntW (ov.filter S) i : Nat) ∧ Hid (Below w9.heap.size w9 wr)) (fun _ iv _ => manyW N - intN iv)
   case atStart => exact ⟨0,rfl,Nat.zero_le _,rfl,H9⟩
   case round =>
    clear H9
    obtain ⟨i,rfl,hi,rfl,HB⟩ := hrel
    have HR1 := hide ((uh HR).later (uh HB))
    obtain ⟨c0,c1⟩ := uh HC _ (uh HR1).below
    obtain ⟨q0,q1,q2,q3⟩ := uh HBX _ (uh HR1)
    by_cases hk : i < manyW N
    · have t1 : (i : Int) < (manyW N : Int) := by omega
      go_wp2_with (first
       | (go_at_call 32; refine ((uh C).many _ (uh HR1).below).mono ?_; rintro e w10 ⟨rfl,hb10⟩; have HB2 := hide ((uh HB).trans (hb10.mono (uh HB).size)); clear HB hb10 HR1 c0 c1 q0 q1 q2 q3; have HB := HB2; clear HB2; have HR1 := hide ((uh HR).later (uh HB)); obtain ⟨c0,c1⟩ := uh HC _ (uh HR1).below; obtain ⟨q0,q1,q2,q3⟩ := uh HBX _ (uh HR1))
       | fail)
      have l2 : (Mk.nmB i).length = 2 := rfl
      have hcat := cat_wNm i
      go_region_held3 (fun w' => w'.cell? ⟨rb,0,none⟩ = some (.slice a1 cs.length k1)) (first | (with_reducible exact q0) | (with_reducible exact qn) | exact q0) (first
       | (go_at_call 34; refine ((uh C).name _ i (by omega)).mono ?_; rintro e w11 ⟨rfl,hb11⟩; have HB2 : Hid (Below w9.heap.size w9 w11) := hide ((uh HB).drew.trans (hb11.mono (uh HB).size)); have HR2 := hide ((uh HR).later (uh HB2)); obtain ⟨qn,-,-,-⟩ := uh HBX _ (uh HR2); clear hb11)
       | (go_at_call 38; refine (uh CA _ (wNm i) a1 k1 b1 (uh HR2).res.1 (uh HR2).res.2.2.1 (uh HOV)).mono ?_; rintro e w12 ⟨rfl,rfl⟩))
      clear HB HR1 c0 c1 q0 q1 q2 q3 qn HR2 hcat l2
      have HB := HB2
      clear HB2
      have HR1 := hide ((uh HR).later (uh HB))
      obtain ⟨c0,c1⟩ := uh HC _ (uh HR1).below
      have d0 := ((uh HK).later (uh HB)).cell i hk
      have d1 := ((uh HT).later (uh HB)).cell i hk
      have hqi : Q i = S i := (uh HQ i hk).trans (uh HS i hk).symm
      rw [hqi] at d1
      have hon := once_at (uh HOV) (S := S) (uh HRA) hk
      rw [← uh HCS] at hon
      rcases hon with ⟨a,hin,ha12,hat,hrs,hall⟩ | ⟨hnin,hat,hrs⟩
      · rw [hat]
        rw [Bool.and_eq_true] at hrs
        obtain ⟨hr1,hs1⟩ := hrs
        rw [hr1] at d0
        rw [hs1] at d1
        have HCN := hide (cnt_yes hin)
        have HALL := hide hall
        have hct := cntW_le (ov.filter S) i
        have t3 : ¬ (a : Int) < -1 := by omega
        have t4 : (0 : Int) ≤ a := by omega
        have t5 : ¬ (a : Int) < 0 := by omega
        clear hin hat hall hr1 hs1 hqi
        go_wp2_with fail
        clear d0 d1 t3 t4 t5 c0 c1
        go_loopw [15] (fun jv wr => ∃ j : Nat,jv = .int .i64 j ∧ i < j ∧ j ≤ manyW N ∧ Hid (Below w9.heap.size w9 wr)) (fun jv _ => manyW N - intN jv)
        case atStart => exact ⟨i + 1,by go_num,by omega,by omega,HB⟩
        case round =>
         clear HB HR1
         obtain ⟨j,rfl,hij,hj,HB⟩ := hrel
         have HR1 := hide ((uh HR).later (uh HB))
         obtain ⟨c0,c1⟩ := uh HC _ (uh HR1).below
         obtain ⟨q0,q1,q2,q3⟩ := uh HBX _ (uh HR1)
         by_cases hk2 : j < manyW N
         · have t2 : (j : Int) < (manyW N : Int) := by omega
           cases hn : needW N i j with
           | false =>
            go_wp2_with (first
             | (go_at_call 32; refine ((uh C).many _ (uh HR1).below).mono ?_; rintro e w10 ⟨rfl,hb10⟩; have HB2 := hide ((uh HB).trans (hb10.mono (uh HB).size)); clear HB hb10 HR1 c0 c1 q0 q1 q2 q3; have HB := HB2; clear HB2; have HR1 := hide ((uh HR).later (uh HB)); obtain ⟨c0,c1⟩ := uh HC _ (uh HR1).below; obtain ⟨q0,q1,q2,q3⟩ := uh HBX _ (uh HR1))
             | (go_at_call 39; refine ((uh C).needs _ i j (by omega) (by omega) (uh HR1).below).mono ?_; rintro e w10 ⟨rfl,hb10⟩; rw [hn]; have HB2 := hide ((uh HB).trans (hb10.mono (uh HB).size)); clear HB hb10 HR1 c0 c1 q0 q1 q2 q3; have HB := HB2; clear HB2; have HR1 := hide ((uh HR).later (uh HB)); obtain ⟨c0,c1⟩ := uh HC _ (uh HR1).below; obtain ⟨q0,q1,q2,q3⟩ := uh HBX _ (uh HR1))
             | fail)
            go_quiet (fail)
            go_wp2_with fail
            go_roundw
            case rel => exact ⟨j + 1,by go_num,by omega,by omega,⟨(uh HB).os,(uh HB).tape,(uh HB).output,(uh HB).size,(uh HB).block⟩⟩
            case measure => simp only [intN]; omega
           | true =>
            have hle := uh HALL j hk2 hn
            have t6 : ¬ (a : Int) < atI cs (wNm j) := by omega
            clear hle
            have l2 : (Mk.nmB j).length = 2 := rfl
            have hcat := cat_wNm j
            go_wp2_with (first
             | (go_at_call 32; refine ((uh C).many _ (uh HR1).below).mono ?_; rintro e w10 ⟨rfl,hb10⟩; have HB2 := hide ((uh HB).trans (hb10.mono (uh HB).size)); clear HB hb10 HR1 c0 c1 q0 q1 q2 q3; have HB := HB2; clear HB2; have HR1 := hide ((uh HR).later (uh HB)); obtain ⟨c0,c1⟩ := uh HC _ (uh HR1).below; obtain ⟨q0,q1,q2,q3⟩ := uh HBX _ (uh HR1))
             | (go_at_call 39; refine ((uh C).needs _ i j (by omega) (by omega) (uh HR1).below).mono ?_; rintro e w10 ⟨rfl,hb10⟩; rw [hn]; have HB2 := hide ((uh HB).trans (hb10.mono (uh HB).size)); clear HB hb10 HR1 c0 c1 q0 q1 q2 q3; have HB := HB2; clear HB2; have HR1 := hide ((uh HR).later (uh HB)); obtain ⟨c0,c1⟩ := uh HC _ (uh HR1).below; obtain ⟨q0,q1,q2,q3⟩ := uh HBX _ (uh HR1))
             | fail)
            go_region_held3 (fun w' => w'.cell? ⟨rb,0,none⟩ = some (.slice a1 cs.length k1)) (first | (with_reducible exact q0) | (with_reducible exact qn) | exact q0) (first
             | (go_at_call 34; refine ((uh C).name _ j (by omega)).mono ?_; rintro e w11 ⟨rfl,hb11⟩; have HB2 : Hid (Below w9.heap.size w9 w11) := hide ((uh HB).drew.trans (hb11.mono (uh HB).size)); have HR2 := hide ((uh HR).later (uh HB2)); obtain ⟨qn,-,-,-⟩ := uh HBX _ (uh HR2); clear hb11)
             | (go_at_call 38; refine (uh CA _ (wNm j) a1 k1 b1 (uh HR2).res.1 (uh HR2).res.2.2.1 (uh HOV)).mono ?_; rintro e w12 ⟨rfl,rfl⟩))
            all_goals go_wp2_with fail
            all_goals go_roundw
            all_goals first
             | exact ⟨j + 1,by go_num,by omega,by omega,HB2⟩
             | (simp only [intN]; omega)
         · have t2 : ¬ (j : Int) < (manyW N : Int) := by omega
           go_wp2_with (first
            | (go_at_call 32; refine ((uh C).many _ (uh HR1).below).mono ?_; rintro e w10 ⟨rfl,hb10⟩; have HB2 := hide ((uh HB).trans (hb10.mono (uh HB).size)); clear HB hb10 HR1 c0 c1 q0 q1 q2 q3; have HB := HB2; clear HB2; have HR1 := hide ((uh HR).later (uh HB)); obtain ⟨c0,c1⟩ := uh HC _ (uh HR1).below; obtain ⟨q0,q1,q2,q3⟩ := uh HBX _ (uh HR1))
            | fail)
           go_roundw
           case rel =>
            refine ⟨i + 1,by go_num,by omega,?_,HB⟩
            rw [uh HCN]
            go_num
           case measure => simp only [intN]; omega
      · rw [hat]
        have HCN := hide (cnt_no hnin)
        clear hnin hat hqi
        cases hr1 : R i with
        | false =>
         rw [hr1] at d0
         clear hrs
         go_wp2_with fail
         go_roundw
         case rel => exact ⟨i + 1,by go_num,by omega,by rw [uh HCN],HB⟩
         case measure => simp only [intN]; omega
        | true =>
         rw [hr1] at d0
         have hs1 : S i = false := by rw [hr1,Bool.true_and] at hrs; exact hrs
         rw [hs1] at d1
         clear hrs
         go_wp2_with fail
         go_roundw
         case rel => exact ⟨i + 1,by go_num,by omega,by rw [uh HCN],HB⟩
         case measure => simp only [intN]; omega
    · have t1 : ¬ (i : Int) < (manyW N : Int) := by omega
      have hie : i = manyW N := by omega
      have HTE : Hid (cntW (ov.filter S) i = cs.length) := hide (by rw [hie,uh HCS,List.length_map]; exact count_all ((uh HOV).small S).1 ((uh HOV).small S).2.2)
      rw [uh HTE]
      clear hie
      go_wp2_with (first
       | (go_at_call 32; refine ((uh C).many _ (uh HR1).below).mono ?_; rintro e w10 ⟨rfl,hb10⟩; have HB2 := hide ((uh HB).trans (hb10.mono (uh HB).size)); clear HB hb10 HR1 c0 c1 q0 q1 q2 q3; have HB := HB2; clear HB2; have HR1 := hide ((uh HR).later (uh HB)); obtain ⟨c0,c1⟩ := uh HC _ (uh HR1).below; obtain ⟨q0,q1,q2,q3⟩ := uh HBX _ (uh HR1))
       | fail)
      go_ret
      exact ⟨by simp,uh HBW _ (uh HR1).below⟩
end Go.Proofs.YtjelacjggijmfaaGreatDoor
