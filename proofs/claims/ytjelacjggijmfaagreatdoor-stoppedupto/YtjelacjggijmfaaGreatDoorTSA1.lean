/-
  Stopped of package makerkeep: the walk.
-/
import Derived.Test.YtjelacjggijmfaaGreatDoorTKXC
namespace Go.Proofs.YtjelacjggijmfaaGreatDoor
open Go.RowKit
theorem w101 (a n:Nat) (h:a<n) (hn:n≤12):wrap64 ((a:Int)+1)=(a:Int)+1∧wrap64 (101+(a:Int))=101+(a:Int)∧(100+((a+1:Nat):Int))=101+(a:Int)∧¬(a:Int)<0:=by
 refine⟨by unfold wrap64;omega,by unfold wrap64;omega,by omega,by omega⟩
set_option maxHeartbeats 8000000 in
set_option maxRecDepth 100000 in
theorem stopped_walk {N T:List Int} (W:World) (an at' :Option Addr) (cn ct:Nat) (goal which ex:Int) (g k:Nat) (hg:g<manyW N) (hk:k<manyW N) (ov:List Nat) (fl fl2:List Pl.File) (cs cs2:List Pl.Bs) (x2:Int) (hcl:cs.length≤12) (hcl2:cs2.length≤12) (hcase:OvOk N g ov→((atI cs (wNm k)= -1∨ex=0)∧cs2=cs∧fl2=fl∧x2=0)∨∃a:Nat,a<cs.length∧ex≠0∧atI cs (wNm k)=(a:Int)∧cs2=cs.take (a+1)∧x2=ex)
 (CW:Hid (∀w',Below W.heap.size W w' →WbC w' (.agg #[.slice an N.length cn,.slice at' T.length ct]) N T))
 (CD:Hid (∀w',Below W.heap.size W w' →Calls Tryz.prog 35 #[.agg #[.slice an N.length cn,.slice at' T.length ct]] w' fun e w2=>∃W1 b cap bs,e= .returned (.slice (some ⟨b,0,none⟩) (manyW N) cap)∧w'.heap.size≤b∧DoI W1 w2 (.slice (some ⟨b,0,none⟩) (manyW N) cap) bs (manyW N)∧Below w'.heap.size w' w2))
 (CS:Hid (∀W a1 c1 b1 a2 c2 b2 a3 c3 b3 a4 c4 b4,Res cs fl a1 a2 b1 b2 W→Res cs fl a3 a4 b3 b4 W→Calls Tryz.prog 28 #[.agg #[.slice a1 cs.length c1,.slice a2 fl.length c2,.int .i64 0,.int .i64 (100+cs.length)],.agg #[.slice a3 cs.length c3,.slice a4 fl.length c4,.int .i64 0,.int .i64 (100+cs.length)]] W fun e w' =>e= .returned (.bool true)∧Below W.heap.size W w'))
 (CP:Hid (∀w',Calls Tryz.prog 31 #[.int .i64 goal,.int .i64 (manyW N:Int)] w' fun e w2=>e= .returned (.int .i64 (g:Int))∧w2=w'))
 (CQ:Hid (∀w',Calls Tryz.prog 31 #[.int .i64 which,.int .i64 (manyW N:Int)] w' fun e w2=>e= .returned (.int .i64 (k:Int))∧w2=w'))
 (CL:Hid (∀w',Below W.heap.size W w' →Calls Tryz.prog 26 #[] w' fun e w2=>e= .returned (.bool true)∧Below w'.heap.size w' w2))
 (CK:Hid (∀w' cap b ce be L,Below W.heap.size W w' →RdF w' b 0 (filesW N T)→b<w'.heap.size→L≤w'.heap.size→RdE w' L be 0 (doesW N fun _=>0)→Calls Tryz.prog 20 #[.slice (some ⟨b,0,none⟩) (filesW N T).length cap,.string ⟨#[82]⟩,.string ⟨(Mk.nmB g).toArray⟩,.slice (some ⟨be,0,none⟩) (manyW N) ce,.int .i64 100] w' fun e w2=>OvOk N g ov∧∃a1 c1 b1 a2 c2 b2,e= .returned (.tuple #[.agg #[.slice a1 cs.length c1,.slice a2 fl.length c2,.int .i64 0,.int .i64 (100+cs.length)],.int .i64 0,.int .i64 0])∧Res cs fl a1 a2 b1 b2 w2∧((0<cs.length→w'.heap.size≤b1)∧(0<fl.length→w'.heap.size≤b2))∧Below w'.heap.size w' w2))
 (CB:Hid (∀w' cap b ce be L,Below W.heap.size W w' →RdF w' b 0 (filesW N T)→b<w'.heap.size→L≤w'.heap.size→RdE w' L be 0 (doesW N (exK k ex))→Calls Tryz.prog 20 #[.slice (some ⟨b,0,none⟩) (filesW N T).length cap,.string ⟨#[82]⟩,.string ⟨(Mk.nmB g).toArray⟩,.slice (some ⟨be,0,none⟩) (manyW N) ce,.int .i64 100] w' fun e w2=>∃a1 c1 b1 a2 c2 b2,e= .returned (.tuple #[.agg #[.slice a1 cs2.length c1,.slice a2 fl2.length c2,.int .i64 x2,.int .i64 (100+cs2.length)],.int .i64 0,.int .i64 0])∧Res cs2 fl2 a1 a2 b1 b2 w2∧((0<cs2.length→w'.heap.size≤b1)∧(0<fl2.length→w'.heap.size≤b2))∧Below w'.heap.size w' w2))
 (CA:Hid (∀w' c a cap b,(0<cs.length→a=some ⟨b,0,none⟩)→RdS w' b 0 cs→OvOk N g ov→Calls Tryz.prog 38 #[.slice a cs.length cap,.string ⟨c.toArray⟩] w' fun e w2=>e= .returned (.int .i64 (atI cs c))∧w2=w')):
 Calls Tryz.prog 10 #[.agg #[.slice an N.length cn,.slice at' T.length ct],.int .i64 goal,.int .i64 which,.int .i64 ex] W fun e w' =>e= .returned (.bool true)∧Below W.heap.size W w' :=by
 have hb0:Below W.heap.size W (W.alloc (.cells #[.slice an N.length cn,.slice at' T.length ct] 76)):=(Below.refl _ _).alloc (Nat.le_refl _) _;have hR:=Row.new W 76 [.slice an N.length cn,.slice at' T.length ct];have hs0:(W.alloc (.cells #[.slice an N.length cn,.slice at' T.length ct] 76)).heap.size=W.heap.size+1:=World.size_alloc _ _
 generalize hW0:W.alloc (.cells #[.slice an N.length cn,.slice at' T.length ct] 76)=W0 at*;have hbw:∀w',Below W0.heap.size W0 w' →Below W.heap.size W w' :=fun w' hb=>hb0.trans (hb.mono (by omega))
 have hm:=many_le N;have HC:Hid (∀w',Below W0.heap.size W0 w' →w'.cell? ⟨W.heap.size,0,none⟩=some (.slice an N.length cn)∧w'.cell? ⟨W.heap.size,1,none⟩=some (.slice at' T.length ct)):=fun w' hb=>⟨(hR.later hb).cell 0 (by simp),(hR.later hb).cell 1 (by simp)⟩
 have HNE:Hid (∀n,W0.heap.size≤n→n≠W.heap.size):=fun n h=>by omega
 have HBW:=hide hbw;have C:Hid (WbC W0 (.agg #[.slice an N.length cn,.slice at' T.length ct]) N T):=uh CW W0 hb0;have HB:=hide (Below.refl W0.heap.size W0);obtain⟨c0,c1⟩:=uh HC W0 (uh HB);have HCASE:=hide hcase;clear hR hb0 hs0 hbw CW hcase
 go_enter Tryz.func10,Tryz.ntmps10
 go_wp2_with (first
  |(go_at_call 32;refine((uh C).many _ (uh HB)).mono ?_;rintro e w1 ⟨rfl,hb1⟩;have HB1:=hide ((uh HB).trans (hb1.mono (uh HB).size));clear hb1 HB c0 c1;have HB:=HB1;clear HB1;obtain⟨c0,c1⟩:=uh HC _ (uh HB))
  |(go_at_call 31;refine(uh CP _).mono ?_;rintro e w1 ⟨rfl,rfl⟩)
  |(go_at_call 34;refine((uh C).name _ g (by omega)).mono ?_;rintro e w2 ⟨rfl,hb1⟩;have HB1:=hide ((uh HB).trans (hb1.mono (uh HB).size));clear hb1 HB c0 c1;have HB:=HB1;clear HB1;obtain⟨c0,c1⟩:=uh HC _ (uh HB))
  |fail)
 have hwl:W.heap.size<w2.heap.size:=Nat.lt_of_lt_of_le (Nat.lt_of_not_le fun q=>uh HNE _ q rfl) (uh HB).size;have HSF:Hid (∀w',Below w2.heap.size w2 w' →w'.cell? ⟨W.heap.size,0,none⟩=some (.slice an N.length cn)∧w'.cell? ⟨W.heap.size,1,none⟩=some (.slice at' T.length ct)):=fun w' h=>uh HC w' ((uh HB).trans (h.mono (uh HB).size))
 clear hW0 c0 c1;have Hd:Hid (Below w2.heap.size w2 w2.drew):=(Below.refl _ w2).drew;have Ha:Hid (Below w2.heap.size w2 (w2.alloc (.cells #[.slice none 0 0,.slice none 0 0,.int .i64 0,.int .i64 0] 48)).drew):=((Below.refl _ w2).alloc (Nat.le_refl _) _).drew
 have HD:Hid (∀w',Below w2.drew.heap.size w2.drew w' →Below w2.heap.size w2 w'):=fun w' h=>⟨h.os,h.tape,h.output,h.size,h.block⟩
 have HA:Hid (∀w',Below (w2.alloc (.cells #[.slice none 0 0,.slice none 0 0,.int .i64 0,.int .i64 0] 48)).drew.heap.size (w2.alloc (.cells #[.slice none 0 0,.slice none 0 0,.int .i64 0,.int .i64 0] 48)).drew w' →Below w2.heap.size w2 w'):=fun w' h=>(uh Ha).trans (h.mono (uh Ha).size)
 have sd:=uh HSF _ (uh Hd);have sa:=uh HSF _ (uh Ha);have zb_0:w2.heap.size≠W.heap.size:=Nat.ne_of_gt hwl;refine region_cut [27,28,29,30,31,32,26,33,34,35,10,11,12] (fun T w' =>∃rb a1 c1 b1 a2 c2 b2,T 10= .pointer (some ⟨rb,0,none⟩)∧T 11= .int .i64 0∧OvOk N g ov∧ResM w2 w' rb cs fl a1 c1 b1 a2 c2 b2 0 (100+cs.length)) ?_ ?_
 ·go_region_held3 (fun w' =>w'.cell? ⟨W.heap.size,0,none⟩=some (.slice an N.length cn)∧w'.cell? ⟨W.heap.size,1,none⟩=some (.slice at' T.length ct)) (first|(with_reducible exact sd)|(with_reducible exact sa)|(with_reducible exact s3)|(with_reducible exact s3a)|(with_reducible exact s4)|(with_reducible exact s4a)|(with_reducible exact s5)|(with_reducible exact s5a)|go_keep) (first
   |(go_at_call 33;refine((uh C).files _ ?_).mono ?_;(refine (uh HB).trans (Below.mono ?_ (uh HB).size);(first|(with_reducible exact uh Hd)|(with_reducible exact uh Ha)));rintro e w3 ⟨fa,fc,fb,rfl,rfl,hf,hfb,hb3⟩;have HL3:Hid (Below w2.heap.size w2 w3):=hide (by first|(with_reducible exact uh HD _ hb3)|(with_reducible exact uh HA _ hb3));have HT3:=HL3;have s3:=uh HSF _ (uh HT3);have s3a:=uh HSF _ ((uh HT3).alloc (uh HT3).size (.cells #[.slice none 0 0,.slice none 0 0,.int .i64 0,.int .i64 0] 48));have z3_0:w3.heap.size≠W.heap.size:=Nat.ne_of_gt (Nat.lt_of_lt_of_le hwl (uh HT3).size);(try ((with_reducible have HX3:Hid (Row w3 w2.heap.size 48 boxZ):=hide ((Row.new w2 48 boxZ).drew.later hb3));have HG3:Hid (w2.heap.size≤w2.heap.size):=(Below.refl w2.heap.size w2).size;have HQ3:Hid (w2.heap.size<(w2.alloc (.cells #[.slice none 0 0,.slice none 0 0,.int .i64 0,.int .i64 0] 48)).heap.size):=hide (by rw[World.size_alloc];exact Nat.lt_succ_self _);have x30:=(uh HX3).cell 0 (by decide);have x31:=(uh HX3).cell 1 (by decide);have x32:=(uh HX3).cell 2 (by decide);have x33:=(uh HX3).cell 3 (by decide);have y30:=(uh HX3).frozen 0;have y31:=(uh HX3).frozen 1;have y32:=(uh HX3).frozen 2;have y33:=(uh HX3).frozen 3;simp only[boxZ,List.getElem_cons_zero,List.getElem_cons_succ] at x30 x31 x32 x33));have HF:=hide hf;clear hf;clear hb3)
   |(go_at_call 35;refine((uh C).does _ ?_).mono ?_;(refine (uh HB).trans (Below.mono ?_ (uh HB).size);(first|(with_reducible exact uh HT3)|exact(uh HT3).alloc (uh HT3).size _));rintro e w4 ⟨be,ce,rfl,-,hE,hb4⟩;have HL4:Hid (Below w3.heap.size w3 w4):=hide (by first|(with_reducible exact hb4)|exact((Below.refl _ w3).alloc (Nat.le_refl _) _).trans (hb4.mono ((Below.refl _ w3).alloc (Nat.le_refl _) _).size));have HT4:=hide ((uh HT3).trans ((uh HL4).mono (uh HT3).size));have s4:=uh HSF _ (uh HT4);have s4a:=uh HSF _ ((uh HT4).alloc (uh HT4).size (.cells #[.slice none 0 0,.slice none 0 0,.int .i64 0,.int .i64 0] 48));have z4_0:w4.heap.size≠W.heap.size:=Nat.ne_of_gt (Nat.lt_of_lt_of_le hwl (uh HT4).size);(try ((with_reducible have HX4:=hide ((uh HX3).later hb4));have HG4:=HG3;have HQ4:=hide (uh HX3).lt;clear HX3 HG3 HQ3;have x40:=(uh HX4).cell 0 (by decide);have x41:=(uh HX4).cell 1 (by decide);have x42:=(uh HX4).cell 2 (by decide);have x43:=(uh HX4).cell 3 (by decide);have y40:=(uh HX4).frozen 0;have y41:=(uh HX4).frozen 1;have y42:=(uh HX4).frozen 2;have y43:=(uh HX4).frozen 3;simp only[boxZ,List.getElem_cons_zero,List.getElem_cons_succ] at x40 x41 x42 x43));(try ((with_reducible have HX4:Hid (Row w4 w3.heap.size 48 boxZ):=hide ((Row.new w3 48 boxZ).later hb4));have HG4:Hid (w2.heap.size≤w3.heap.size):=(uh HT3).size;have HQ4:Hid (w3.heap.size<(w3.alloc (.cells #[.slice none 0 0,.slice none 0 0,.int .i64 0,.int .i64 0] 48)).heap.size):=hide (by rw[World.size_alloc];exact Nat.lt_succ_self _);have x40:=(uh HX4).cell 0 (by decide);have x41:=(uh HX4).cell 1 (by decide);have x42:=(uh HX4).cell 2 (by decide);have x43:=(uh HX4).cell 3 (by decide);have y40:=(uh HX4).frozen 0;have y41:=(uh HX4).frozen 1;have y42:=(uh HX4).frozen 2;have y43:=(uh HX4).frozen 3;simp only[boxZ,List.getElem_cons_zero,List.getElem_cons_succ] at x40 x41 x42 x43));have HF4:=hide ((uh HF).below (uh HL4) hfb);have hfb4:=Nat.lt_of_lt_of_le hfb (uh HL4).size;have HE:=hide hE;clear hE;clear hb4)
   |(go_at_call 20;refine(uh CK _ fc fb ce be w4.heap.size ?_ ?_ ?_ ?_ ?_).mono ?_;(refine uh HBW _ ((uh HB).trans (Below.mono ?_ (uh HB).size));(first|(with_reducible exact uh HT4)|exact(uh HT4).alloc (uh HT4).size _));(first|(with_reducible exact uh HF4)|exact(uh HF4).below ((Below.refl _ w4).alloc (Nat.le_refl _) _) hfb4);(first|(with_reducible exact hfb4)|exact Nat.lt_of_lt_of_le hfb4 ((Below.refl _ w4).alloc (Nat.le_refl _) _).size);(first|(with_reducible exact Nat.le_refl _)|exact((Below.refl _ w4).alloc (Nat.le_refl _) _).size);(first|(with_reducible exact uh HE)|exact(uh HE).below ((Below.refl _ w4).alloc (Nat.le_refl _) _));rintro e w5 ⟨hov,a1,c1',b1,a2,c2,b2,rfl,hres,hge,hb5⟩;have HL5:Hid (Below w4.heap.size w4 w5):=hide (by first|(with_reducible exact hb5)|exact((Below.refl _ w4).alloc (Nat.le_refl _) _).trans (hb5.mono ((Below.refl _ w4).alloc (Nat.le_refl _) _).size));have HT5:=hide ((uh HT4).trans ((uh HL5).mono (uh HT4).size));have s5:=uh HSF _ (uh HT5);have s5a:=uh HSF _ ((uh HT5).alloc (uh HT5).size (.cells #[.slice none 0 0,.slice none 0 0,.int .i64 0,.int .i64 0] 48));have z5_0:w5.heap.size≠W.heap.size:=Nat.ne_of_gt (Nat.lt_of_lt_of_le hwl (uh HT5).size);(try ((with_reducible have HX5:=hide ((uh HX4).later hb5));have HG5:=HG4;have HQ5:=hide (uh HX4).lt;clear HX4 HG4 HQ4;have x50:=(uh HX5).cell 0 (by decide);have x51:=(uh HX5).cell 1 (by decide);have x52:=(uh HX5).cell 2 (by decide);have x53:=(uh HX5).cell 3 (by decide);have y50:=(uh HX5).frozen 0;have y51:=(uh HX5).frozen 1;have y52:=(uh HX5).frozen 2;have y53:=(uh HX5).frozen 3;simp only[boxZ,List.getElem_cons_zero,List.getElem_cons_succ] at x50 x51 x52 x53));(try ((with_reducible have HX5:Hid (Row w5 w4.heap.size 48 boxZ):=hide ((Row.new w4 48 boxZ).later hb5));have HG5:Hid (w2.heap.size≤w4.heap.size):=(uh HT4).size;have HQ5:Hid (w4.heap.size<(w4.alloc (.cells #[.slice none 0 0,.slice none 0 0,.int .i64 0,.int .i64 0] 48)).heap.size):=hide (by rw[World.size_alloc];exact Nat.lt_succ_self _);have x50:=(uh HX5).cell 0 (by decide);have x51:=(uh HX5).cell 1 (by decide);have x52:=(uh HX5).cell 2 (by decide);have x53:=(uh HX5).cell 3 (by decide);have y50:=(uh HX5).frozen 0;have y51:=(uh HX5).frozen 1;have y52:=(uh HX5).frozen 2;have y53:=(uh HX5).frozen 3;simp only[boxZ,List.getElem_cons_zero,List.getElem_cons_succ] at x50 x51 x52 x53));have HOV:=hide hov;have HRS:=hide hres;have HGE:=hide hge;clear hov hres hge;clear hb5))
  all_goals refine cut_last (by kernel_rfl) ⟨_,a1,c1',b1,a2,c2,b2,rfl,rfl,uh HOV,?_⟩
  all_goals first
   |exact ResM.new (uh HT5) (uh HRS)
   |exact ResM.set (uh HT5) (uh HRS) (uh HX5) (uh HG5) (fun q=>Nat.lt_of_lt_of_le (uh HQ5) ((uh HGE).1 q)) (fun q=>Nat.lt_of_lt_of_le (uh HQ5) ((uh HGE).2 q))
 ·rintro T' w5 ⟨rb,a1,k1,b1,a2,k2,b2,h6,h7,hov,hres⟩
  simp only[putTs,List.foldl_cons,List.foldl_nil,h6,h7,List.setIfInBounds_toArray,List.set_cons_succ,List.set_cons_zero];have HOV:=hide hov;have HR:=hide hres;have HB5:=hide ((uh HB).trans (hres.below.mono (uh HB).size));have HZ:=hide (Below.refl w5.heap.size w5)
  have HC5:Hid (∀w',Below w5.heap.size w5 w' →Below W0.heap.size W0 w'):=fun w' h=>(uh HB5).trans (h.mono (uh HB5).size)
  obtain⟨c0,c1⟩:=uh HC _ (uh HB5);clear hov hres h6 h7 HB CP CK HSF;have hki:(k:Int)<(manyW N:Int):=by omega
  go_wp2_with (first
   |(go_at_call 35;refine(uh CD _ (uh HBW _ (uh HC5 _ (uh HZ)))).mono ?_;rintro e w6 ⟨W1,be,ce,bs,rfl,hbe,hE,hb6⟩;have HBE:Hid (w5.heap.size≤be):=hide hbe;have HE:=hide hE;have HZ6:=hide ((uh HZ).trans (hb6.mono (uh HZ).size));clear hb6 hE hbe c0 c1 HZ;have HZ:=HZ6;clear HZ6;obtain⟨c0,c1⟩:=uh HC _ (uh HC5 _ (uh HZ)))
   |(go_at_call 32;refine((uh C).many _ (uh HC5 _ (uh HZ))).mono ?_;rintro e w7 ⟨rfl,hb7⟩;have HE7:=hide ((uh HE).later hb7);have HZ7:=hide ((uh HZ).trans (hb7.mono (uh HZ).size));clear hb7 c0 c1 HZ HE;have HZ:=HZ7;have HE:=HE7;clear HZ7 HE7;obtain⟨c0,c1⟩:=uh HC _ (uh HC5 _ (uh HZ));obtain⟨e0,e1⟩:=(uh HE).place hk;have HEX:=hide ((uh HE).exit hk ex);have HZS:Hid (Below w5.heap.size w5 (w7.setCell ⟨be,k*3+2,none⟩ (.int .i64 ex))):=(uh HZ).setCell (p:=⟨be,_,none⟩) (uh HBE) _;have hsz:(w7.setCell ⟨be,k*3+2,none⟩ (.int .i64 ex)).heap.size=w7.heap.size:=(by simp[World.setCell]);obtain⟨d0,d1⟩:=uh HC _ (uh HC5 _ (uh HZS)))
   |(go_at_call 31;refine(uh CQ _).mono ?_;rintro e w8 ⟨rfl,rfl⟩)
   |fail)
  generalize w8.setCell ⟨be,k*3+2,none⟩ (.int .i64 ex)=w9 at*;clear HZ HE e0 e1 c0 c1;refine((uh C).files _ (uh HC5 _ (uh HZS))).mono ?_
  rintro e w10 ⟨fa,fc,fb,rfl,rfl,hf,hfb,hb10⟩
  have HZ:=hide ((uh HZS).trans (hb10.mono (uh HZS).size));have HF:=hide hf;have HEX2:=hide ((uh HEX).below (hb10.mono (by omega)));have hsz2:w8.heap.size≤w10.heap.size:=by have:=hb10.size;omega
  clear hf hb10 HZS HEX d0 d1 hsz
  go_wp2_with (first
   |(go_at_call 20;refine(uh CB _ fc fb ce be w8.heap.size (uh HBW _ (uh HC5 _ (uh HZ))) (uh HF) hfb hsz2 (uh HEX2)).mono ?_;rintro e w11 ⟨a3,k3,b3,a4,k4,b4,rfl,hres2,-,hb11⟩;have HZ11:=hide ((uh HZ).trans (hb11.mono (uh HZ).size));have HR2:Hid (ResM w5 (w11.alloc (.cells #[.slice a3 cs2.length k3,.slice a4 fl2.length k4,.int .i64 x2,.int .i64 (100+cs2.length)] 48)) w11.heap.size cs2 fl2 a3 k3 b3 a4 k4 b4 x2 (100+cs2.length)):=ResM.new (uh HZ11) hres2;clear hb11 hres2 HZ HF HEX2)
   |(go_at_call 26;refine(uh CL _ (uh HBW _ (uh HC5 _ (uh HR2).below))).mono ?_;rintro e w12 ⟨rfl,hb12⟩;have HR12:=hide ((uh HR2).later hb12);clear hb12 HR2;have HR2:=HR12;clear HR12)
   |fail)
  have HR5:=hide ((uh HR).later (uh HR2).below);have q0:=(uh HR5).box.cell 0 (by simp);simp only[List.getElem_cons_zero] at q0;have l2:(Mk.nmB k).length=2:=rfl;have hcat:=cat_wNm k
  go_region_held3 (fun w' =>w'.cell? ⟨rb,0,none⟩=some (.slice a1 cs.length k1)) (first|(with_reducible exact q0)|(with_reducible exact qn)|exact q0) (first
   |(go_at_call 34;refine((uh C).name _ k (by omega)).mono ?_;rintro e w13 ⟨rfl,hb13⟩;have HL13:Hid (Below w12.heap.size w12 w13):=hide ⟨hb13.os,hb13.tape,hb13.output,hb13.size,hb13.block⟩;have HRa:=hide ((uh HR5).later (uh HL13));have HRb:=hide ((uh HR2).later (uh HL13));have qn:=(uh HRa).box.cell 0 (by simp);simp only[List.getElem_cons_zero] at qn;clear hb13)
   |(go_at_call 38;refine(uh CA _ (wNm k) a1 k1 b1 (uh HRa).res.1 (uh HRa).res.2.2.1 (uh HOV)).mono ?_;rintro e w14 ⟨rfl,rfl⟩))
  obtain⟨p0,p1,p2,p3⟩:w14.cell? ⟨rb,0,none⟩=some (.slice a1 cs.length k1)∧w14.cell? ⟨rb,1,none⟩=some (.slice a2 fl.length k2)∧w14.cell? ⟨rb,2,none⟩=some (.int .i64 0)∧w14.cell? ⟨rb,3,none⟩=some (.int .i64 (100+cs.length)):=⟨(uh HRa).box.cell 0 (by simp),(uh HRa).box.cell 1 (by simp),(uh HRa).box.cell 2 (by simp),(uh HRa).box.cell 3 (by simp)⟩
  obtain⟨s0,s1,s2,s3⟩:w14.cell? ⟨w11.heap.size,0,none⟩=some (.slice a3 cs2.length k3)∧w14.cell? ⟨w11.heap.size,1,none⟩=some (.slice a4 fl2.length k4)∧w14.cell? ⟨w11.heap.size,2,none⟩=some (.int .i64 x2)∧w14.cell? ⟨w11.heap.size,3,none⟩=some (.int .i64 (100+cs2.length)):=⟨(uh HRb).box.cell 0 (by simp),(uh HRb).box.cell 1 (by simp),(uh HRb).box.cell 2 (by simp),(uh HRb).box.cell 3 (by simp)⟩
  clear q0 qn HR5 HR2 HR HL13 hcat l2
  rcases uh HCASE (uh HOV) with⟨hne,rfl,rfl,rfl⟩|⟨a,ha,hx,hat,hc2,hx2⟩
  ·by_cases hlt:atI cs2 (wNm k)<0
   ·clear hne HCASE
    go_wp2_with (first
     |(go_at_call 28;refine(uh CS _ a1 k1 b1 a2 k2 b2 a3 k3 b3 a4 k4 b4 (uh HRa).res (uh HRb).res).mono ?_;rintro e w15 ⟨rfl,hb15⟩;have HE15:=hide ((uh HRb).below.trans (hb15.mono (uh HRb).below.size)))
     |fail)
    go_ret
    exact⟨rfl,uh HBW _ (uh HC5 _ (uh HE15))⟩
   ·have hx:ex=0:=hne.resolve_left (fun q=>hlt (by rw[q];decide))
    subst hx;clear hne HCASE
    go_wp2_with (first
     |(go_at_call 28;refine(uh CS _ a1 k1 b1 a2 k2 b2 a3 k3 b3 a4 k4 b4 (uh HRa).res (uh HRb).res).mono ?_;rintro e w15 ⟨rfl,hb15⟩;have HE15:=hide ((uh HRb).below.trans (hb15.mono (uh HRb).below.size)))
     |fail)
    go_ret
    exact⟨rfl,uh HBW _ (uh HC5 _ (uh HE15))⟩
  ·obtain rfl:ex=x2:=hx2.symm
   rw[hat];have HL2:Hid (cs2.length=a+1):=hide (by rw[hc2,List.length_take];omega);have HGT:Hid (∀i (h:i<cs2.length) (h' :i<cs.length),cs2[i]=cs[i]):=fun i h h' =>by subst hc2;exact List.getElem_take
   rw[uh HL2] at s0 s3;have hx' :(ex==0)=false:=by simpa using hx
   obtain⟨t9,t10,t11,t8⟩:=w101 a cs.length ha hcl;rw[t11] at s3;have HHX:=hide hx;clear HCASE hat hc2 t11 hx2 hx
   go_wp2_with fail
   clear p1 p2 p3 s1 s2 s3 t8 t9 t10
   go_loopw [20] (fun iv wr=>∃i:Nat,iv= .int .i64 i∧i≤a+1∧Hid (ResM w2 wr rb cs fl a1 k1 b1 a2 k2 b2 0 (100+cs.length))∧Hid (ResM w5 wr w11.heap.size cs2 fl2 a3 k3 b3 a4 k4 b4 ex (100+cs2.length))) (fun iv _=>a+1-intN iv)
   case atStart=>exact⟨0,rfl,Nat.zero_le _,HRa,HRb⟩
   case round=>
    clear p0 s0 HRa HRb;obtain⟨i,rfl,hi,HRa,HRb⟩:=hrel;have p0:=(uh HRa).box.cell 0 (by simp);have s0:=(uh HRb).box.cell 0 (by simp);simp only[List.getElem_cons_zero] at p0 s0;rw[uh HL2] at s0
    by_cases hk3:i<a+1
    ·have t1:(i:Int)≤(a:Int):=by omega
     have t2:(i:Int)<(cs.length:Int):=by omega
     obtain rfl:=(uh HRa).res.1 (by omega);have h2i:i<cs2.length:=by rw[uh HL2];exact hk3
     obtain rfl:=(uh HRb).res.1 (by omega);have u0:=(uh HRa).res.2.2.1 i (by omega);have u1:=(uh HRb).res.2.2.1 i h2i;rw[Nat.zero_add] at u0 u1;rw[uh HGT i h2i (by omega)] at u1;generalize cs[i]'(by omega)=ci at*;clear h2i;unfold strV at u0 u1
     go_wp2_with fail
     go_quiet (fail)
     go_wp2_with fail
     go_roundw
     case rel=>exact⟨i+1,by go_num,by omega,⟨⟨(uh HRa).below.os,(uh HRa).below.tape,(uh HRa).below.output,(uh HRa).below.size,(uh HRa).below.block⟩,(uh HRa).box,(uh HRa).res⟩,⟨⟨(uh HRb).below.os,(uh HRb).below.tape,(uh HRb).below.output,(uh HRb).below.size,(uh HRb).below.block⟩,(uh HRb).box,(uh HRb).res⟩⟩
     case measure=>simp only[intN];omega
    ·have t1:¬(i:Int)≤(a:Int):=by omega
     go_wp2_with fail
     go_ret
     exact⟨rfl,uh HBW _ (uh HC5 _ (uh HRb).below)⟩
end Go.Proofs.YtjelacjggijmfaaGreatDoor
