/-
  Alike of package makerkeep: the walk.
-/
import Derived.Test.YtjelacjggijmfaaGreatDoorTAK3
namespace Go.Proofs.YtjelacjggijmfaaGreatDoor
open Go.RowKit
set_option maxHeartbeats 8000000 in
set_option maxRecDepth 100000 in
theorem alike_walk (t goal s:Pl.Bs) (fs:List Pl.File) (er:Nat) (cs:List Pl.Bs) (fl fl' :List Pl.File) (ex ck:Int) (a ae:Option Addr) (cap m ce b o:Nat) (clock:Int) (w:World) (hlen:fl'.length=fl.length) (hfq:∀i (h:i<fl.length) (h' :i<fl'.length),Pl.Fq [82] t s fl[i] fl'[i]) (hfs:fs.length≤1048576) (hfl:fl.length≤8388608)
 (ha:0<fs.length→a=some ⟨b,o,none⟩∧RdF w b o fs∧b<w.heap.size)
 (C0:Hid (Calls Tryz.prog 26 #[] w fun e w' =>e= .returned (.bool true)∧Below w.heap.size w w'))
 (C1:Hid (∀W,Below w.heap.size w W→Calls Tryz.prog 27 #[.string ⟨t.toArray⟩] W fun e w' =>e= .returned (.tuple #[.string ⟨s.toArray⟩,.int .i64 0,.int .i64 0])∧Below W.heap.size W w'))
 (C2:Hid (∀W ba ca,Below w.heap.size w W→RdF W ba 0 (wR fs t)→ba<W.heap.size→Calls Tryz.prog 20 #[.slice (some ⟨ba,0,none⟩) (wR fs t).length ca,.string ⟨#[82]⟩,.string ⟨goal.toArray⟩,.slice ae m ce,.int .i64 clock] W fun e w' =>∃vc vr ln,e= .returned (.tuple #[.agg #[vc,vr,.int .i64 ex,.int .i64 ck],.int .i64 (er:Int),.int .i64 ln])∧MkO W.heap.size cs fl vc vr w' ∧Below W.heap.size W w'))
 (C3:Hid (∀W ba ca,Below w.heap.size w W→RdF W ba 0 (wR fs s)→ba<W.heap.size→Calls Tryz.prog 20 #[.slice (some ⟨ba,0,none⟩) (wR fs s).length ca,.string ⟨#[82]⟩,.string ⟨goal.toArray⟩,.slice ae m ce,.int .i64 clock] W fun e w' =>∃vc vr ln ex2 ck2 cs2 fl2,∃er2:Nat,e= .returned (.tuple #[.agg #[vc,vr,.int .i64 ex2,.int .i64 ck2],.int .i64 (er2:Int),.int .i64 ln])∧MkO W.heap.size cs2 fl2 vc vr w' ∧Below W.heap.size W w' ∧(er≠5→er=er2∧ex=ex2∧ck=ck2∧cs=cs2∧fl' =fl2)))
 (C5:Hid (∀W vc vr vc' vr' B B',MkO B cs fl' vc vr W→MkO B' cs fl' vc' vr' W→Calls Tryz.prog 28 #[.agg #[vc,vr,.int .i64 ex,.int .i64 ck],.agg #[vc',vr',.int .i64 ex,.int .i64 ck]] W fun e w' =>e= .returned (.bool true)∧Below W.heap.size W w')):
 Calls Tryz.prog 5 #[.string ⟨t.toArray⟩,.string ⟨goal.toArray⟩,.slice a fs.length cap,.slice ae m ce,.int .i64 clock] w fun e w' =>e= .returned (.bool true)∧Below w.heap.size w w' :=by
 obtain⟨i0,hi,hz0,hz1,hz2⟩:=info_parts Tryz.infoAFile;have HI:=hide hi;have HZ0:=hide hz0;have HZ1:=hide hz1;have HZ2:=hide hz2;have HA:=hide ha;have HFQ:=hide hfq;have HLE:=hide hlen;clear hi hz0 hz1 hz2 ha hfq hlen
 go_enter Tryz.func5,Tryz.ntmps5
 go_wp2_with (first
  |(go_at_call 26;refine(uh C0).mono ?_;rintro e w1 ⟨rfl,hb1⟩;have HB1:=hide hb1;clear hb1 C0)
  |(go_at_call 27;refine(uh C1 _ (uh HB1)).mono ?_;rintro e w2 ⟨rfl,hb2⟩;have HB2:=hide ((uh HB1).trans (hb2.mono (uh HB1).size));clear hb2 HB1 C1)
  |fail)
 have HO0:Hid (TwoI w2 (.slice none 0 0) (offR (fs.take 0)) (.slice none 0 0) (offR (fs.take 0)) w2):=two_new w2
 go_loopw [15,16,17] (fun va vb iv wr=>∃i:Nat,iv= .int .i64 i∧i≤fs.length∧Hid (TwoI w2 va (offR (fs.take i)) vb (offR (fs.take i)) wr)) (fun _ _ iv _=>fs.length-intN iv)
 case atStart=>exact⟨0,rfl,Nat.zero_le _,HO0⟩
 case round=>
  clear HO0;obtain⟨i,rfl,hi,HO⟩:=hrel;obtain⟨sa,sc,hvs⟩:=own_shape (uh HO).a;subst hvs;obtain⟨ra,rc,hvr⟩:=own_shape (uh HO).b;subst hvr;have hol:=off_len fs i
  by_cases hk:i<fs.length
  ·obtain⟨rfl,hrd,hbw⟩:=uh HA (by omega)
   have t1:(i:Int)<(fs.length:Int):=by omega
   have hb2:=(uh HB2).trans ((uh HO).below.mono (uh HB2).size);have HRD:Hid (∀w',Below w.heap.size w w' →w'.cell? ⟨b,o+i*3,none⟩=some (strV fs[i].path)∧w'.cell? ⟨b,o+i*3+1,none⟩=some (strV fs[i].text)∧w'.cell? ⟨b,o+i*3+2,none⟩=some (.int .i64 fs[i].time)):=fun w' hb' =>(hrd.below hb' hbw) i hk
   obtain⟨p0,p1,p2⟩:=uh HRD _ hb2;unfold strV at p0 p1;clear hrd;cases hp:fs[i].path==[82] with
   |false=>
    have HT:=hide (off_yes hk hp);clear hb2
    go_wp2_with (first
     |(at_builtin;refine wpList_append_own_at _ rfl (.tmp 55) (.tmp 60) 27 rfl w2.heap.size 65 i0 _ 3 40 Tryz.underlying27 (uh HI) (uh HZ0) (uh HZ1) (uh HZ2) rfl (by decide) _ (offR (fs.take i)).length _ rfl (World.ownsRow.alloc (uh HO).a _) ⟨_,0,none⟩ 1 1 (fileC fs[i]) rfl rfl (cells_new _ _ (fileC fs[i])) (file_one _) (by unfold maxLen;omega) (by omega) (by rw[World.size_alloc];have:=(uh HO).below.size;omega) ?_;intro v1 w3 hown1 hgrow1 hnil1 hat1;have HO1:Hid (TwoI w2 v1 (offR (fs.take i)++[fs[i]]) (.slice ra (offR (fs.take i)).length rc) (offR (fs.take i)) w3):=(uh HO).push hgrow1 hown1 hat1;clear hown1 hgrow1 hnil1 hat1;obtain⟨r0,r1,r2⟩:=uh HRD _ ((uh HB2).trans ((uh HO1).below.mono (uh HB2).size));unfold strV at r0 r1;clear p0 p1 p2 HO)
     |(at_builtin;refine wpList_append_own_at _ rfl (.tmp 62) (.tmp 67) 27 rfl w2.heap.size 65 i0 _ 3 40 Tryz.underlying27 (uh HI) (uh HZ0) (uh HZ1) (uh HZ2) rfl (by decide) _ (offR (fs.take i)).length _ rfl (World.ownsRow.alloc (uh HO1).b _) ⟨_,0,none⟩ 1 1 (fileC fs[i]) rfl rfl (cells_new _ _ (fileC fs[i])) (file_one _) (by unfold maxLen;omega) (by omega) (by rw[World.size_alloc];have:=(uh HO1).below.size;omega) ?_;intro v2 w4 hown1 hgrow1 hnil1 hat1;have HO2:Hid (TwoI w2 v1 (offR (fs.take i)++[fs[i]]) v2 (offR (fs.take i)++[fs[i]]) w4):=((uh HO1).swap.push hgrow1 hown1 hat1).swap;clear hown1 hgrow1 hnil1 hat1)
     |fail)
    go_roundw
    case rel=>exact⟨i+1,by go_num,by omega,by rw[uh HT];exact HO2⟩
    case measure=>simp only[intN];omega
   |true=>
    have HT:=hide (off_no hk hp);clear hb2 HRD
    go_wp2_with fail
    go_roundw
    case rel=>exact⟨i+1,by go_num,by omega,by rw[uh HT];exact HO⟩
    case measure=>simp only[intN];omega
  ·have t1:¬(i:Int)<(fs.length:Int):=by omega
   have hie:offR (fs.take i)=offR fs:=by rw[List.take_of_length_le (by omega)]
   rw[hie] at HO hol⊢;clear hie
   go_wp2_with (first
    |(at_builtin;refine wpList_append_own_at _ rfl (.tmp 69) (.tmp 72) 27 rfl w2.heap.size 65 i0 _ 3 40 Tryz.underlying27 (uh HI) (uh HZ0) (uh HZ1) (uh HZ2) rfl (by decide) _ (offR fs).length _ rfl (World.ownsRow.alloc (uh HO).a _) ⟨_,0,none⟩ 1 1 (fileC ⟨[82],t,0⟩) rfl rfl (cells_new _ _ (fileC ⟨[82],t,0⟩)) (file_one _) (by unfold maxLen;omega) (by omega) (by rw[World.size_alloc];have:=(uh HO).below.size;omega) ?_;intro v1 w3 hown1 hgrow1 hnil1 hat1;have HO1:Hid (TwoI w2 v1 (wR fs t) (.slice ra (offR fs).length rc) (offR fs) w3):=(uh HO).push hgrow1 hown1 hat1;clear hown1 hgrow1 hnil1 hat1;obtain⟨aa,ca,ba,hv1,hx1,-,-⟩:=own_files (uh HO1).a;obtain rfl:=hx1 (wR_pos fs t);subst hv1;clear HO hx1)
    |(at_builtin;refine wpList_append_own_at _ rfl (.tmp 74) (.tmp 77) 27 rfl w2.heap.size 65 i0 _ 3 40 Tryz.underlying27 (uh HI) (uh HZ0) (uh HZ1) (uh HZ2) rfl (by decide) _ (offR fs).length _ rfl (World.ownsRow.alloc (uh HO1).b _) ⟨_,0,none⟩ 1 1 (fileC ⟨[82],s,0⟩) rfl rfl (cells_new _ _ (fileC ⟨[82],s,0⟩)) (file_one _) (by unfold maxLen;omega) (by omega) (by rw[World.size_alloc];have:=(uh HO1).below.size;omega) ?_;intro v2 w4 hown1 hgrow1 hnil1 hat1;have HO2:Hid (TwoI w2 (.slice (some ⟨ba,0,none⟩) (wR fs t).length ca) (wR fs t) v2 (wR fs s) w4):=((uh HO1).swap.push hgrow1 hown1 hat1).swap;clear hown1 hgrow1 hnil1 hat1;obtain⟨ab,cb,bb,hv2,hx1,-,-⟩:=own_files (uh HO2).b;obtain rfl:=hx1 (wR_pos fs s);subst hv2;clear HO1 hx1;have HB4:=hide ((uh HB2).trans ((uh HO2).below.mono (uh HB2).size));have HRa:=hide (own_at (uh HO2).a (wR_pos fs t));have HRb:=hide (own_at (uh HO2).b (wR_pos fs s)))
    |(go_at_call 20;refine(uh C2 _ ba ca (uh HB4) (uh HRa).1 (uh HRa).2).mono ?_;rintro e w5 ⟨vc,vr,ln,rfl,hmk,hb5⟩;obtain⟨a1,c1,rfl⟩:=own_shape hmk.c;obtain⟨a2,c2,rfl⟩:=own_shape hmk.f;have HA5:=hide hb5;have HX:=hide hmk;clear hb5 hmk C2)
    |fail)
   have hba:Below w5.heap.size w5 (w5.alloc (.cells #[.slice a1 cs.length c1,.slice a2 fl.length c2,.int .i64 ex,.int .i64 ck] 48)):=(Below.refl _ _).alloc (Nat.le_refl _) _;have hR:=Row.new w5 48 [.slice a1 cs.length c1,.slice a2 fl.length c2,.int .i64 ex,.int .i64 ck];have HX6:=hide ((uh HX).later hba);have HSW:Hid (w.heap.size≤w4.heap.size):=(uh HB4).size
   have hb5:=(uh HB4).trans ((uh HA5).mono (uh HB4).size);have HB6:=hide (hb5.trans (hba.mono hb5.size));have ha6:=(uh HA5).trans (hba.mono (uh HA5).size);have HRb6:=hide (And.intro ((uh HRb).1.below ha6 (uh HRb).2) (Nat.lt_of_lt_of_le (uh HRb).2 ha6.size));have HXR:=hide hR
   have HS6:Hid ((w5.alloc (.cells #[.slice a1 cs.length c1,.slice a2 fl.length c2,.int .i64 ex,.int .i64 ck] 48)).heap.size=w5.heap.size+1):=World.size_alloc _ _;clear hR hba hb5 ha6 HRa HRb HA5 HO2 HB4 HB2;generalize w5.alloc (.cells #[.slice a1 cs.length c1,.slice a2 fl.length c2,.int .i64 ex,.int .i64 ck] 48)=w6 at*;refine(uh C3 _ bb cb (uh HB6) (uh HRb6).1 (uh HRb6).2).mono ?_
   rintro e w7 ⟨vc',vr',ln',ex2,ck2,cs2,fl2,er2,rfl,hmk,hb7,hsame⟩
   obtain⟨a3,c3,rfl⟩:=own_shape hmk.c;obtain⟨a4,c4,rfl⟩:=own_shape hmk.f
   by_cases h5:er=5
   ·have hb7' :=(uh HB6).trans (hb7.mono (uh HB6).size)
    have HB8:=hide (hb7'.alloc hb7'.size (.cells #[.slice a3 cs2.length c3,.slice a4 fl2.length c4,.int .i64 ex2,.int .i64 ck2] 48));subst h5;clear hb7' hmk hb7 hsame
    go_wp2_with fail
    go_ret
    exact⟨rfl,uh HB8⟩
   obtain⟨rfl,rfl,rfl,rfl,rfl⟩:=hsame h5;clear hsame;rw[uh HLE];have hba:Below w7.heap.size w7 (w7.alloc (.cells #[.slice a3 cs.length c3,.slice a4 fl.length c4,.int .i64 ex,.int .i64 ck] 48)):=(Below.refl _ _).alloc (Nat.le_refl _) _;have HYR:=hide (Row.new w7 48 [.slice a3 cs.length c3,.slice a4 fl.length c4,.int .i64 ex,.int .i64 ck]);have hxr:=((uh HXR).later hb7).later hba
   have HXR8:=hide hxr;have HX8:=hide (((uh HX6).later hb7).later hba);have HY8:=hide (hmk.later hba);have hb7' :=(uh HB6).trans (hb7.mono (uh HB6).size);have HB8:=hide (hb7'.trans (hba.mono hb7'.size));have HS7:Hid (w6.heap.size≤w7.heap.size):=hb7.size;have hne:((er:Int)==5)=false:=by rw[beq_eq_false_iff_ne];omega
   have hee:((er:Int) !=(er:Int))=false:=by simp
   have HX5:Hid (∀k,(Value.slice a2 fl.length c2).ownBlock=some k→k<w5.heap.size):=fun k hk=>(World.ownsRow.lt (uh HX).f k hk).2
   clear hba hmk hb7 hb7' C3 HX6 HXR HX HB6 HRb6 h5 hxr;generalize hw8:w7.alloc (.cells #[.slice a3 cs.length c3,.slice a4 fl.length c4,.int .i64 ex,.int .i64 ck] 48)=w8 at*
   go_wp2_with fail
   have HSZ8:Hid (w8.heap.size=w7.heap.size+1):=hide (by rw[←hw8];exact World.size_alloc _ _);clear hw8 hne hee;have HF0:Hid (FxI w4.heap.size w8 (.slice a2 fl.length c2) (mixF fl fl' 0) w8):=hide (by rw[mix_zero];exact FxI.new (uh HX8).f)
   go_loopw [24] (fun iv wr=>∃i:Nat,iv= .int .i64 i∧i≤fl.length∧Hid (FxI w4.heap.size w8 (.slice a2 fl.length c2) (mixF fl fl' i) wr)) (fun iv _=>fl.length-intN iv)
   case atStart=>exact⟨0,rfl,Nat.zero_le _,HF0⟩
   case round=>
    clear HF0;obtain⟨i,rfl,hi,HF⟩:=hrel;rename_i wr;have hcx:∀q k,some q≠(Value.slice a2 fl.length c2).ownBlock→wr.cell? ⟨q,k,none⟩=w8.cell? ⟨q,k,none⟩:=fun q k hq=>by unfold World.cell?;rw[(uh HF).oth q hq]
    have hnx:some w5.heap.size≠(Value.slice a2 fl.length c2).ownBlock:=fun e=>by have:=uh HX5 _ e.symm;omega
    have hny:some w7.heap.size≠(Value.slice a2 fl.length c2).ownBlock:=fun e=>by have:=uh HX5 _ e.symm;have:=uh HS6;have:=uh HS7;omega
    have x1:=(hcx _ 1 hnx).trans ((uh HXR8).cell 1 (by simp));have y1:=(hcx _ 1 hny).trans ((uh HYR).cell 1 (by simp));simp only[List.getElem_cons_zero,List.getElem_cons_succ] at x1 y1
    by_cases hk:i<fl.length
    ·have t1:(i:Int)<(fl.length:Int):=by omega
     have hk' :i<fl'.length:=by rw[uh HLE];exact hk
     obtain⟨g,cg,eg,-,-⟩:=owns_form (uh HX8).f (by omega);cases eg;obtain⟨g4,cg4,eg4,hge4,-⟩:=owns_form (uh HY8).f (by omega);cases eg4;have hgx:=uh HX5 g rfl;obtain⟨p0,p1,fz⟩:=(uh HF).cells (uh HLE) hk;obtain⟨-,q1,-⟩:=(own_at (uh HY8).f (by omega)).1 i hk';rw[Nat.zero_add] at q1
     have q1' :=(hcx g4 (i*3+1) (fun e=>by have e' :g4=g:=Option.some.inj e;have:=uh HS6;omega)).trans q1;have HNX:=hide ((uh HF).fix (uh HLE) hk hk' (uh HFQ i hk hk'));have HSK:=hide ((uh HF).skip (uh HLE) hk hk');have HFQI:=hide (uh HFQ i hk hk');unfold strV at p0 p1 q1' HNX;clear hcx hnx hny q1 hgx hge4;generalize fl[i]=fi at*;generalize fl'[i]=fj at*
     have hjk:(fi.path==[82])=true∧(fi.text==t)=true∨((fi.path==[82])=false∧fj=fi)∨((fi.path==[82])=true∧(fi.text==t)=false∧fj=fi):=by
      have hfx:=(uh HFQI).fix;unfold Pl.fixF at hfx
      by_cases e1:fi.path=[82]
      ·by_cases e2:fi.text=t
       ·exact .inl ⟨by simpa using e1,by simpa using e2⟩
       ·rw[if_neg (fun q=>e2 q.2)] at hfx
        exact .inr (.inr ⟨by simpa using e1,by simpa using e2,hfx.symm⟩)
      ·rw[if_neg (fun q=>e1 q.1)] at hfx
       exact .inr (.inl ⟨by simpa using e1,hfx.symm⟩)
     clear HFQI
     rcases hjk with⟨e1,e2⟩|⟨e1,e3⟩|⟨e1,e2,e3⟩
     ·clear HSK
      go_wp2_with fail
      go_region_with fail
      all_goals go_wp2_with fail
      all_goals go_roundw
      all_goals first
       |exact⟨i+1,by go_num,by omega,(uh HNX).drawn⟩
       |(simp only[intN];omega)
     ·have HN:=hide (uh HSK e3)
      clear HNX HSK e3 q1'
      go_wp2_with fail
      go_roundw
      case rel=>exact⟨i+1,by go_num,by omega,HN⟩
      case measure=>simp only[intN];omega
     ·have HN:=hide (uh HSK e3)
      clear HNX HSK e3 q1'
      go_wp2_with fail
      go_roundw
      case rel=>exact⟨i+1,by go_num,by omega,HN⟩
      case measure=>simp only[intN];omega
    ·have t1:¬(i:Int)<(fl.length:Int):=by omega
     have hie:i=fl.length:=by omega
     have hend:mixF fl fl' i=fl' :=by rw[hie];exact mix_end (uh HLE)
     have hf:=uh HF;rw[hend] at hf;have x0:=(hcx _ 0 hnx).trans ((uh HXR8).cell 0 (by simp));have x2:=(hcx _ 2 hnx).trans ((uh HXR8).cell 2 (by simp));have x3:=(hcx _ 3 hnx).trans ((uh HXR8).cell 3 (by simp));have y0:=(hcx _ 0 hny).trans ((uh HYR).cell 0 (by simp));have y2:=(hcx _ 2 hny).trans ((uh HYR).cell 2 (by simp));have y3:=(hcx _ 3 hny).trans ((uh HYR).cell 3 (by simp))
     simp only[List.getElem_cons_zero,List.getElem_cons_succ] at x0 x2 x3 y0 y2 y3;have hap:=apart (uh HX8).c (uh HX8).f (by decide)
     have hM1:MkO w4.heap.size cs fl' (.slice a1 cs.length c1) (.slice a2 fl.length c2) wr:=⟨own_same (uh HX8).c (fun k hk=>hf.oth k (fun e=>by
      rcases hap with q|q
      ·rw[hk] at q;cases q
      ·exact q (hk.trans e))),hf.own⟩
     have hY:=uh HY8;rw[uh HLE] at hY;have hlo:∀{v:Value} {e sz n:Nat} {xs:List Value},w8.ownsRow w6.heap.size e sz v n xs→wr.ownsRow w6.heap.size e sz v n xs:=fun h=>own_same h (fun k hk=>hf.oth k (fun e=>by have:=(World.ownsRow.lt h k hk).1;have:=uh HX5 k e.symm;have:=uh HS6;omega))
     have HM1:=hide hM1;have HM2:Hid (MkO w6.heap.size cs fl' (.slice a3 cs.length c3) (.slice a4 fl.length c4) wr):=⟨hlo hY.c,hlo hY.f⟩;have HBR:Hid (Below w.heap.size w wr):=(uh HB8).trans ⟨hf.low.os,hf.low.tape,hf.low.output,hf.low.size,fun q hq=>hf.oth q (own_ne hf.own (Nat.lt_of_lt_of_le hq (uh HSW)))⟩;clear hie hend hf hap hM1 hY hlo hcx hnx hny HF
     go_wp2_with (first
      |(go_at_call 28;refine(uh C5 _ _ _ _ _ _ _ (uh HM1) (uh HM2)).mono ?_;rintro e w9 ⟨rfl,hb9⟩;have HB9:=hide ((uh HBR).trans (hb9.mono (uh HBR).size));clear hb9)
      |fail)
     go_ret
     exact⟨rfl,uh HB9⟩
end Go.Proofs.YtjelacjggijmfaaGreatDoor
