/-
  The reader: an include.
-/
import Derived.Test.YtjelacjggijmfaaGreatDoorTGD3
set_option maxHeartbeats 4000000
set_option maxRecDepth 100000
namespace Go.Proofs.YtjelacjggijmfaaGreatDoor
open Go.RowKit Go.MapKept Go.ChangeMaps Go.Maps
theorem wordsB_any (t:Pl.Bs) (w:World) (ht:t.length≤2000):
 Calls Tryz.prog 166 #[.string ⟨t.toArray⟩] w fun e w' =>∃A,e= .returned (.slice (some ⟨A,0,none⟩) (Mk.words t).length (Mk.words t).length)∧
  w'.ownsRow w.heap.size 9 1 (.slice (some ⟨A,0,none⟩) (Mk.words t).length (Mk.words t).length) (Mk.words t).length ((Mk.words t).map strV)∧Below w.heap.size w w' :=by
 have hC:=words_any ⟨t.toArray⟩ w (by show t.length≤_;omega);have hg:=Mk.goFields_words ⟨t.toArray⟩;have hg2:(Lib.goFieldsP Mk.blkN ⟨t.toArray⟩).map (·.data.toList)=Mk.words t:=hg;have hl:(Lib.goFieldsP Mk.blkN ⟨t.toArray⟩).length=(Mk.words t).length:=by rw[←hg2,List.length_map]
 have hm:(Lib.goFieldsP Mk.blkN ⟨t.toArray⟩).map Value.string=(Mk.words t).map strV:=by
  rw[←hg2,List.map_map];apply List.map_congr_left;intro b _;show Value.string b=Value.string ⟨b.data.toList.toArray⟩;rw[Array.toArray_toList]
 rw[hl,hm] at hC;exact hC
section
variable {W X:World} {F G:Foot} {c:Ad} {rb:Nat→Nat} {s:St}
theorem RdM.more (h:RdM W F c rb s):RdM (W.setCell ⟨c.rd,2,none⟩ (.int .i64 ((s.n:Int)+1))) F c rb {s with n:=s.n+1}∧Fr F F W (W.setCell ⟨c.rd,2,none⟩ (.int .i64 ((s.n:Int)+1))):=by
 have hc:((s.n+1:Nat):Int)=(s.n:Int)+1:=by omega
 have:=h.toRd (n:=s.n+1) (inc:=s.inc) (opn:=s.opn) (Tn.set (p:=fun k=>k=c.rd) W ⟨c.rd,2,none⟩ (.int .i64 ((s.n:Int)+1)) rfl) (by rw[hc];exact h.row.set 2 _);exact this
theorem rule_any (l:Mk.Ln) (k:Nat) (h:RdM W F c rb s) (hk:Ok s k) (hg:Glob W) (hgF:F 0=none) (hl:l.left.length≤1073741824) (hr:l.right.length≤1073741824):
 Calls Tryz.prog 137 #[.pointer (some ⟨c.rd,0,none⟩),lnV l] W fun e W' =>∃G rb',e= .returned (.tuple #[opV rb' (ruleF s l).2.1,.int .i64 ((ruleF s l).1:Int)])∧RdM W' G c rb' (ruleF s l).2.2∧Fr F G W W' :=by
 obtain⟨num,kind,L,R⟩:=l
 have hA:ruleF s ⟨num,kind,L,R⟩=if(expE s.names L).er≠0 then((expE s.names L).er,none,s)
  else if(expE s.names R).er≠0 then((expE s.names R).er,none,s)
  else if sidesB (Mk.words (expE s.names L).txt) (Mk.words (expE s.names R).txt)=false then(1,none,s)
  else if s.n=64 then(5,none,s)
  else(0,addF {s with n:=s.n+1} (Mk.words (expE s.names L).txt) (Mk.words (expE s.names R).txt)):=rfl
 rw[hA];have b0:=(Below.refl W.heap.size W).alloc (Nat.le_refl _) (.cells #[.int .i64 num,.int .i64 kind,.string ⟨L.toArray⟩,.string ⟨R.toArray⟩] 164)
 have CE:Hid (∀text w,Below W.heap.size W w→text.length≤1073741824→Calls Tryz.prog 182 #[.pointer (some ⟨c.rd,0,none⟩),.string ⟨text.toArray⟩] w fun e w' =>e= .returned (.tuple #[.string ⟨(expE s.names text).txt.toArray⟩,.int .i64 ((expE s.names text).er:Int)])∧Below w.heap.size w w'):=fun text w hw ht=>rdExp_any text (h.later hw) hk.short (hg.later hw) ht
 have hrow:=Row.new W 164 [.int .i64 num,.int .i64 kind,.string ⟨L.toArray⟩,.string ⟨R.toArray⟩];have hel:=expE_len s.names L;have her:=expE_len s.names R;have HH:Hid (∀w,Below W.heap.size W w→RdM w F c rb s∧Fr F F W w):=fun w hw=>⟨h.later hw,Fr.later hw⟩
 have HB0:=hide b0;have HK:=hide hk;have HG:=hide hg;have HF:=hide hgF;have HL:=hide (fun w (hw:Below W.heap.size W w)=>uh CE L w hw hl);have HR:=hide (fun w (hw:Below W.heap.size W w)=>uh CE R w hw hr);have HOUT:Hid (∀k,W.heap.size≤k→F k=none):=fun k hk=>h.out hk
 clear h hk hg hgF b0 CE hA;generalize hGL:expE s.names L=eL at*;generalize hGR:expE s.names R=eR at*;clear hGL hGR;obtain⟨tl,erl,rfl_⟩:=eL;obtain⟨tr,err,rfr_⟩:=eR;simp only at hel her HL HR⊢;have HRW:=hide hrow;clear hrow
 by_cases h1:erl=0
 ·subst h1
  rw[if_neg (by simp)]
  by_cases h2:err=0
  ·subst h2
   rw[if_neg (by simp)];have a1:=words_len tl;have a2:=words_len tr
   have CM:Hid (∀A1 A2 w,Below W.heap.size W w→RdN w A1 0 (Mk.words tl)→RdN w A2 0 (Mk.words tr)→A1<w.heap.size→A2<w.heap.size→Calls Tryz.prog 183 #[.slice (some ⟨A1,0,none⟩) (Mk.words tl).length (Mk.words tl).length,.slice (some ⟨A2,0,none⟩) (Mk.words tr).length (Mk.words tr).length] w fun e w' =>e= .returned (.bool (sidesB (Mk.words tl) (Mk.words tr)))∧Below w.heap.size w w'):=fun A1 A2 w hw h3 h4 h5 h6=>
    mayBeSides_any (Mk.words tl) (Mk.words tr) _ _ _ _ w ⟨A1,0,fun _=>⟨rfl,h5,h3⟩⟩ ⟨A2,0,fun _=>⟨rfl,h6,h4⟩⟩ ((uh HG).later hw) (by omega) (by omega) (fun x hx=>by have:=a1.2 x hx;omega) (fun x hx=>by have:=a2.2 x hx;omega)
   have HNE:Hid (sidesB (Mk.words tl) (Mk.words tr)=true→Mk.words tl≠[]):=fun e q=>by
    unfold sidesB at e;rw[q] at e;simp at e
   have CA:Hid (∀A1 A2 w,Below W.heap.size W w→SlF w F (.slice (some ⟨A1,0,none⟩) (Mk.words tl).length (Mk.words tl).length) (Mk.words tl)→SlF w F (.slice (some ⟨A2,0,none⟩) (Mk.words tr).length (Mk.words tr).length) (Mk.words tr)→sidesB (Mk.words tl) (Mk.words tr)=true→Calls Tryz.prog 184 #[.pointer (some ⟨c.bb,0,none⟩),.slice (some ⟨A1,0,none⟩) (Mk.words tl).length (Mk.words tl).length,.slice (some ⟨A2,0,none⟩) (Mk.words tr).length (Mk.words tr).length] (w.setCell ⟨c.rd,2,none⟩ (.int .i64 ((s.n:Int)+1))) fun e w' =>∃G rb',e= .returned (opV rb' (addF {s with n:=s.n+1} (Mk.words tl) (Mk.words tr)).1)∧RdM w' G c rb' (addF {s with n:=s.n+1} (Mk.words tl) (Mk.words tr)).2∧Fr F G W w'):=fun A1 A2 w hw h3 h4 h5=>by
    obtain⟨m1,f1⟩:=uh HH w hw;obtain⟨m2,f2⟩:=m1.more;have hk:=uh HK;have q1:=hk.tl;have q2:=hk.ph;have q3:=hk.pt;have q4:=hk.n64
    have hgl:Glob (w.setCell ⟨c.rd,2,none⟩ (.int .i64 ((s.n:Int)+1))):=by
     obtain⟨m,hm⟩:=(uh HG).later hw;refine⟨m,?_⟩;have hlt:=glob_lt ((uh HG).later hw);have:=f2.tn.block _ hlt (fun e=>e (uh HF));unfold World.cell? at*;rw[this];exact hm
    refine(add_any (Mk.words tl) (Mk.words tr) _ _ m2 (h3.fr f2) (h4.fr f2) (uh HNE h5) hgl (by omega) (by omega) (fun x hx=>by have:=a1.2 x hx;omega) (by simp only;omega) (by simp only;omega) hk.ol (by simp only;omega)).mono ?_
    rintro e w' ⟨G,rb',rfl,m3,f3⟩
    exact⟨G,rb',rfl,m3,(f1.trans f2).trans f3⟩
   have CW1:=hide (fun w=>wordsB_any tl w hel);have CW2:=hide (fun w=>wordsB_any tr w her);have HSL:Hid (∀w w' A ws,Below W.heap.size W w→w'.ownsRow w.heap.size 9 1 (.slice (some ⟨A,0,none⟩) ws.length ws.length) ws.length (ws.map strV)→SlF w' F (.slice (some ⟨A,0,none⟩) ws.length ws.length) ws):=fun w w' A ws hw ho=>SlF.ofOwn ho (fun k hk _=>uh HOUT k (Nat.le_trans hw.size hk))
   have hrw:∀w A ws,SlF w F (.slice (some ⟨A,0,none⟩) ws.length ws.length) ws→A<w.heap.size∧RdN w A 0 ws:=fun w A ws h=>by
    rcases h with⟨h1,h2⟩|⟨b,o,cc,h1,h2,h3,h4,h5⟩
    ·cases h1
    ·cases h1;exact⟨h2,h4⟩
   have HRW2:=hide hrw;clear hrw
   by_cases h3:sidesB (Mk.words tl) (Mk.words tr)=false
   ·rw[if_pos h3]
    rw[h3] at CM;clear CA HNE
    go_enter Tryz.func137,Tryz.ntmps137
    unfold lnV
    go_wp2_with (first
     |(go_at_call 182;refine(uh HL _ (uh HB0)).mono ?_;clear HL;rintro e w1 ⟨rfl,hb1⟩;have c3:=((uh HRW).later hb1).cell? (i:=3) rfl;have HB1:=hide ((uh HB0).trans (hb1.mono (uh HB0).size));clear hb1)
     |(go_at_call 182;refine(uh HR _ (uh HB1)).mono ?_;clear HR;rintro e w2 ⟨rfl,hb2⟩;have HB2:=hide ((uh HB1).trans (hb2.mono (uh HB1).size));clear hb2)
     |(go_at_call 166;refine(uh CW1 w2).mono ?_;clear CW1;rintro e w3 ⟨A1,rfl,ho3,hb3⟩;have HS3:=hide (uh HSL w2 w3 A1 _ (uh HB2) ho3);have HB3:=hide ((uh HB2).trans (hb3.mono (uh HB2).size));clear ho3 hb3)
     |(go_at_call 166;refine(uh CW2 w3).mono ?_;clear CW2;rintro e w4 ⟨A2,rfl,ho4,hb4⟩;have HS4:=hide (uh HSL w3 w4 A2 _ (uh HB3) ho4);have HS5:=hide ((uh HS3).later hb4);have HB4:=hide ((uh HB3).trans (hb4.mono (uh HB3).size));clear ho4 hb4)
     |(go_at_call 183;refine(uh CM A1 A2 w4 (uh HB4) (uh HRW2 _ _ _ (uh HS5)).2 (uh HRW2 _ _ _ (uh HS4)).2 (uh HRW2 _ _ _ (uh HS5)).1 (uh HRW2 _ _ _ (uh HS4)).1).mono ?_;clear CM;rintro e w5 ⟨rfl,hb5⟩;have HX:=hide (uh HH _ ((uh HB4).trans (hb5.mono (uh HB4).size)));clear hb5)
     |fail)
    go_ret2
    exact⟨F,rb,rfl,(uh HX).1,(uh HX).2⟩
   ·rw[if_neg h3]
    have h3' :sidesB (Mk.words tl) (Mk.words tr)=true:=by simpa using h3
    rw[h3'] at CM
    by_cases h64:s.n=64
    ·rw[if_pos h64]
     have t64:((s.n:Int)==64)=true:=by rw[beq_iff_eq];omega
     clear CA HNE
     go_enter Tryz.func137,Tryz.ntmps137
     unfold lnV
     go_wp2_with (first
      |(go_at_call 182;refine(uh HL _ (uh HB0)).mono ?_;clear HL;rintro e w1 ⟨rfl,hb1⟩;have c3:=((uh HRW).later hb1).cell? (i:=3) rfl;have HB1:=hide ((uh HB0).trans (hb1.mono (uh HB0).size));clear hb1)
      |(go_at_call 182;refine(uh HR _ (uh HB1)).mono ?_;clear HR;rintro e w2 ⟨rfl,hb2⟩;have HB2:=hide ((uh HB1).trans (hb2.mono (uh HB1).size));clear hb2)
      |(go_at_call 166;refine(uh CW1 w2).mono ?_;clear CW1;rintro e w3 ⟨A1,rfl,ho3,hb3⟩;have HS3:=hide (uh HSL w2 w3 A1 _ (uh HB2) ho3);have HB3:=hide ((uh HB2).trans (hb3.mono (uh HB2).size));clear ho3 hb3)
      |(go_at_call 166;refine(uh CW2 w3).mono ?_;clear CW2;rintro e w4 ⟨A2,rfl,ho4,hb4⟩;have HS4:=hide (uh HSL w3 w4 A2 _ (uh HB3) ho4);have HS5:=hide ((uh HS3).later hb4);have HB4:=hide ((uh HB3).trans (hb4.mono (uh HB3).size));clear ho4 hb4)
      |(go_at_call 183;refine(uh CM A1 A2 w4 (uh HB4) (uh HRW2 _ _ _ (uh HS5)).2 (uh HRW2 _ _ _ (uh HS4)).2 (uh HRW2 _ _ _ (uh HS5)).1 (uh HRW2 _ _ _ (uh HS4)).1).mono ?_;clear CM;rintro e w5 ⟨rfl,hb5⟩;have HX:=hide (uh HH _ ((uh HB4).trans (hb5.mono (uh HB4).size)));have r2:=(uh HX).1.row.cell? (i:=2) rfl;clear hb5)
      |fail)
     go_ret2
     exact⟨F,rb,rfl,(uh HX).1,(uh HX).2⟩
    ·rw[if_neg h64]
     have t64:((s.n:Int)==64)=false:=by rw[beq_eq_false_iff_ne];omega
     have hn64:=(uh HK).n64;have HT:=hide h3';clear HNE h3 h3'
     go_enter Tryz.func137,Tryz.ntmps137
     unfold lnV
     go_wp2_with (first
      |(go_at_call 182;refine(uh HL _ (uh HB0)).mono ?_;clear HL;rintro e w1 ⟨rfl,hb1⟩;have c3:=((uh HRW).later hb1).cell? (i:=3) rfl;have HB1:=hide ((uh HB0).trans (hb1.mono (uh HB0).size));clear hb1)
      |(go_at_call 182;refine(uh HR _ (uh HB1)).mono ?_;clear HR;rintro e w2 ⟨rfl,hb2⟩;have HB2:=hide ((uh HB1).trans (hb2.mono (uh HB1).size));clear hb2)
      |(go_at_call 166;refine(uh CW1 w2).mono ?_;clear CW1;rintro e w3 ⟨A1,rfl,ho3,hb3⟩;have HS3:=hide (uh HSL w2 w3 A1 _ (uh HB2) ho3);have HB3:=hide ((uh HB2).trans (hb3.mono (uh HB2).size));clear ho3 hb3)
      |(go_at_call 166;refine(uh CW2 w3).mono ?_;clear CW2;rintro e w4 ⟨A2,rfl,ho4,hb4⟩;have HS4:=hide (uh HSL w3 w4 A2 _ (uh HB3) ho4);have HS5:=hide ((uh HS3).later hb4);have HB4:=hide ((uh HB3).trans (hb4.mono (uh HB3).size));clear ho4 hb4)
      |(go_at_call 183;refine(uh CM A1 A2 w4 (uh HB4) (uh HRW2 _ _ _ (uh HS5)).2 (uh HRW2 _ _ _ (uh HS4)).2 (uh HRW2 _ _ _ (uh HS5)).1 (uh HRW2 _ _ _ (uh HS4)).1).mono ?_;clear CM;rintro e w5 ⟨rfl,hb5⟩;have HB5:=hide ((uh HB4).trans (hb5.mono (uh HB4).size));have HX:=hide (uh HH _ (uh HB5));have r2:=(uh HX).1.row.cell? (i:=2) rfl;have f2:=(uh HX).1.row.frozen 2;have r1:=(uh HX).1.more.1.row.cell? (i:=1) rfl;have HS6:=hide ((uh HS4).later hb5);have HS7:=hide ((uh HS5).later hb5);clear hb5)
      |(go_at_call 184;refine(uh CA A1 A2 w5 (uh HB5) (uh HS7) (uh HS6) (uh HT)).mono ?_;clear CA;rintro e w6 ⟨G,rb',rfl,hm6,hf6⟩;have HM6:=hide hm6;have HF6:=hide hf6;clear hm6 hf6)
      |fail)
     go_ret2
     exact⟨G,rb',rfl,uh HM6,uh HF6⟩
  ·have t1:((err:Int) !=0)=true:=by rw[bne_iff_ne];omega
   rw[if_pos h2]
   go_enter Tryz.func137,Tryz.ntmps137
   unfold lnV
   go_wp2_with (first
    |(go_at_call 182;refine(uh HL _ (uh HB0)).mono ?_;clear HL;rintro e w1 ⟨rfl,hb1⟩;have c3:=((uh HRW).later hb1).cell? (i:=3) rfl;have HB1:=hide ((uh HB0).trans (hb1.mono (uh HB0).size));clear hb1)
    |(go_at_call 182;refine(uh HR _ (uh HB1)).mono ?_;clear HR;rintro e w2 ⟨rfl,hb2⟩;have HX:=hide (uh HH _ ((uh HB1).trans (hb2.mono (uh HB1).size)));clear hb2)
    |fail)
   go_ret2
   exact⟨F,rb,rfl,(uh HX).1,(uh HX).2⟩
 ·have t1:((erl:Int) !=0)=true:=by rw[bne_iff_ne];omega
  rw[if_pos h1]
  go_enter Tryz.func137,Tryz.ntmps137
  unfold lnV
  go_wp2_with (first
   |(go_at_call 182;refine(uh HL _ (uh HB0)).mono ?_;clear HL;rintro e w1 ⟨rfl,hb1⟩;have HX:=hide (uh HH _ ((uh HB0).trans (hb1.mono (uh HB0).size)));clear hb1)
   |fail)
  go_ret2
  exact⟨F,rb,rfl,(uh HX).1,(uh HX).2⟩
end
def RecC (c:Ad) (bf bi:Nat) (ve:Value) (ef:List Pl.Eff) (fs:List Pl.File) (clock:Int) (M:Nat) (rec:St→Pl.Bs→Nat×Nat×St) (o:Nat):Prop:=
 ∀(W:World) (F:Foot) (rb:Nat→Nat) (s:St) (k:Nat) (text:Pl.Bs),RdM W F c rb s→En W F c.bx bf bi ve ef fs clock→Ok s k→s.opn=o→text.length+1≤M→text.length≤1073741824→k+(100-s.inc)*M+M≤4294967296→
  Calls Tryz.prog 89 #[.pointer (some ⟨c.rd,0,none⟩),.string ⟨text.toArray⟩] W fun e W' =>∃G rb',e= .returned (.tuple #[.int .i64 ((rec s text).1:Int),.int .i64 ((rec s text).2.1:Int)])∧RdM W' G c rb' (rec s text).2.2∧Fr F G W W'
section
variable {W X:World} {F G:Foot} {c:Ad} {rb:Nat→Nat} {s:St} {bf bi:Nat} {ve:Value} {ef:List Pl.Eff} {fs:List Pl.File} {clock:Int} {M o k:Nat} {rec:St→Pl.Bs→Nat×Nat×St}
theorem RdM.opens (h:RdM W F c rb s):RdM ((W.setCell ⟨c.rd,3,none⟩ (.int .i64 ((s.inc:Int)+1))).setCell ⟨c.rd,4,none⟩ (.int .i64 ((s.opn:Int)+1))) F c rb {s with inc:=s.inc+1,opn:=s.opn+1}∧Fr F F W ((W.setCell ⟨c.rd,3,none⟩ (.int .i64 ((s.inc:Int)+1))).setCell ⟨c.rd,4,none⟩ (.int .i64 ((s.opn:Int)+1))):=by
 have hc:((s.inc+1:Nat):Int)=(s.inc:Int)+1:=by omega
 have hd:((s.opn+1:Nat):Int)=(s.opn:Int)+1:=by omega
 exact h.toRd (n:=s.n) (inc:=s.inc+1) (opn:=s.opn+1) ((Tn.set (p:=fun k=>k=c.rd) W ⟨c.rd,3,none⟩ _ rfl).trans (Tn.set _ ⟨c.rd,4,none⟩ _ rfl)) (by rw[hc,hd];exact(h.row.set 3 _).set 4 _)
theorem RdM.shuts (h:RdM W F c rb s) (ho:1≤s.opn):RdM (W.setCell ⟨c.rd,4,none⟩ (.int .i64 ((s.opn:Int)-1))) F c rb {s with opn:=s.opn-1}∧Fr F F W (W.setCell ⟨c.rd,4,none⟩ (.int .i64 ((s.opn:Int)-1))):=by
 have hd:((s.opn-1:Nat):Int)=(s.opn:Int)-1:=by omega
 exact h.toRd (n:=s.n) (inc:=s.inc) (opn:=s.opn-1) (Tn.set (p:=fun k=>k=c.rd) W ⟨c.rd,4,none⟩ _ rfl) (by rw[hd];exact h.row.set 4 _)
theorem shut_any (b:Nat) (u:FrameMode) (h:RdM W F c rb s) (hb:Row W b 264 [.pointer (some ⟨c.rd,0,none⟩)]) (ho:1≤s.opn) (ho2:s.opn≤4):
 CallsD Tryz.prog 233 #[.pointer (some ⟨b,0,none⟩)] u W fun e u' w' =>u' =u∧(e= .returned (.tuple #[])∧RdM w' F c rb {s with opn:=s.opn-1}∧Fr F F W w'):=by
 have c0:=hb.cell? (i:=0) rfl;have c4:=h.row.cell? (i:=4) rfl;have f4:=h.row.frozen 4;have HS:=hide (h.shuts ho);clear h hb
 go_enter_d Tryz.func233,Tryz.ntmps233
 go_wp2_with fail
 go_end0
 exact⟨rfl,uh HS⟩
theorem includeFile_any (hrec:o≠3→RecC c bf bi ve ef fs clock M rec (o+1)) (hro:RecOk M rec) (hf:∀p g,Pl.look fs p=some g→g.text.length+1≤M∧g.text.length≤1073741824) (name:Pl.Bs) (num:Nat) (h:RdM W F c rb s) (hE:En W F c.bx bf bi ve ef fs clock) (hk:Ok s k) (ho:s.opn=o) (ho3:o≤3) (hkk:k+(100-s.inc)*M≤4294967296):
 Calls Tryz.prog 185 #[.pointer (some ⟨c.rd,0,none⟩),.string ⟨name.toArray⟩,.int .i64 (num:Int)] W fun e W' =>∃G rb',e= .returned (.tuple #[.int .i64 ((fileF rec fs s name num).1:Int),.int .i64 ((fileF rec fs s name num).2.1:Int)])∧RdM W' G c rb' (fileF rec fs s name num).2.2∧Fr F G W W' :=by
 have hmf:∀(fn:Fn) (first cap:Array Value) (w:World),(Instr.makeFunc fn first cap).run Tryz.prog w= .ok (.func fn first cap) w:=fun _ _ _ _=>rfl
 have b0:=(Below.refl W.heap.size W).alloc (Nat.le_refl _) (.cells #[.pointer (some ⟨c.rd,0,none⟩)] 264);have rB:=Row.new W 264 [.pointer (some ⟨c.rd,0,none⟩)];have c0:=h.row.cell? (i:=0) rfl;have CT:=hide (worldText_any c.bx bf bi ve ef fs clock name (W.alloc (.cells #[.pointer (some ⟨c.rd,0,none⟩)] 264)) (hE.pw.later b0))
 have HM:Hid (∀w,Below (W.alloc (.cells #[.pointer (some ⟨c.rd,0,none⟩)] 264)).heap.size (W.alloc (.cells #[.pointer (some ⟨c.rd,0,none⟩)] 264)) w→RdM w F c rb s∧Fr F F W w∧En w F c.bx bf bi ve ef fs clock∧Row w W.heap.size 264 [.pointer (some ⟨c.rd,0,none⟩)]):=fun w hw=>by
  have hbw:Below W.heap.size W w:=b0.trans (hw.mono (by rw[World.size_alloc];omega));exact⟨h.later hbw,Fr.later hbw,hE.later hbw,rB.later hw⟩
 have hgt:F W.heap.size=none:=h.out (Nat.le_refl _);have l1:c.rd<W.heap.size:=h.row.lt;clear h hE b0 rB;cases hL:Pl.look fs name with
 |none=>
  have hA:fileF rec fs s name num=(2,num,s):=by unfold fileF;rw[hL]
  rw[hA];rw[hL] at CT;simp only at CT;clear hA
  go_enter_defers Tryz.func185,Tryz.ntmps185
  go_wp2_with (first
   |(go_at_call 87;refine(uh CT).mono ?_;clear CT;rintro e w1 ⟨rfl,hb1⟩;have HX:=hide (uh HM _ hb1);clear hb1)
   |fail)
  exact⟨_,results_tmp2 rfl _ _ _,F,rb,rfl,(uh HX).1,(uh HX).2.1⟩
 |some g=>
  rw[hL] at CT;simp only at CT;obtain⟨hg1,hg2⟩:=hf name g hL
  by_cases h3:s.opn=3
  ·have hA:fileF rec fs s name num=(3,num,s):=by unfold fileF;rw[hL];simp only;rw[if_pos h3]
   rw[hA];have t3:((s.opn:Int)==3)=true:=by rw[beq_iff_eq];omega
   clear hA
   go_enter_defers Tryz.func185,Tryz.ntmps185
   go_wp2_with (first
    |(go_at_call 87;refine(uh CT).mono ?_;clear CT;rintro e w1 ⟨rfl,hb1⟩;have HX:=hide (uh HM _ hb1);have d0:=(uh HX).2.2.2.cell? (i:=0) rfl;have d4:=(uh HX).1.row.cell? (i:=4) rfl;clear hb1)
    |fail)
   exact⟨_,results_tmp2 rfl _ _ _,F,rb,rfl,(uh HX).1,(uh HX).2.1⟩
  ·have t3:((s.opn:Int)==3)=false:=by rw[beq_eq_false_iff_ne];omega
   by_cases h100:s.inc=100
   ·have hA:fileF rec fs s name num=(5,num,s):=by unfold fileF;rw[hL];simp only;rw[if_neg h3,if_pos h100]
    rw[hA];have t4:((s.inc:Int)==100)=true:=by rw[beq_iff_eq];omega
    clear hA
    go_enter_defers Tryz.func185,Tryz.ntmps185
    go_wp2_with (first
     |(go_at_call 87;refine(uh CT).mono ?_;clear CT;rintro e w1 ⟨rfl,hb1⟩;have HX:=hide (uh HM _ hb1);have d0:=(uh HX).2.2.2.cell? (i:=0) rfl;have d4:=(uh HX).1.row.cell? (i:=4) rfl;have d3:=(uh HX).1.row.cell? (i:=3) rfl;clear hb1)
     |fail)
    exact⟨_,results_tmp2 rfl _ _ _,F,rb,rfl,(uh HX).1,(uh HX).2.1⟩
   ·have t4:((s.inc:Int)==100)=false:=by rw[beq_eq_false_iff_ne];omega
    have hi:=hk.inc;have hA:fileF rec fs s name num=((rec {s with inc:=s.inc+1,opn:=s.opn+1} g.text).1,(rec {s with inc:=s.inc+1,opn:=s.opn+1} g.text).2.1,{(rec {s with inc:=s.inc+1,opn:=s.opn+1} g.text).2.2 with opn:=(rec {s with inc:=s.inc+1,opn:=s.opn+1} g.text).2.2.opn-1}):=by unfold fileF;rw[hL];simp only;rw[if_neg h3,if_neg h100]
    rw[hA];have hk1:Ok {s with inc:=s.inc+1,opn:=s.opn+1} k:=⟨hk.short,hk.nl,hk.ol,hk.tl,hk.n64,hk.ph,hk.pt,hk.rl,hk.cl,hk.rs,by simp only;omega⟩;have hopn:=(hro _ k g.text hk1 hg1 hg2).opn;simp only at hopn
    have hkb:k+(100-(s.inc+1))*M+M≤4294967296:=by
     obtain⟨q,hq⟩:∃q,100-s.inc=q+1:=⟨99-s.inc,by omega⟩;have hq2:100-(s.inc+1)=q:=by omega
     rw[hq,Nat.succ_mul] at hkk;rw[hq2];omega
    have CR:Hid (∀w,RdM w F c rb s→En w F c.bx bf bi ve ef fs clock→Calls Tryz.prog 89 #[.pointer (some ⟨c.rd,0,none⟩),.string ⟨g.text.toArray⟩] ((w.setCell ⟨c.rd,3,none⟩ (.int .i64 ((s.inc:Int)+1))).setCell ⟨c.rd,4,none⟩ (.int .i64 ((s.opn:Int)+1))) fun e W' =>∃G rb',e= .returned (.tuple #[.int .i64 ((rec {s with inc:=s.inc+1,opn:=s.opn+1} g.text).1:Int),.int .i64 ((rec {s with inc:=s.inc+1,opn:=s.opn+1} g.text).2.1:Int)])∧RdM W' G c rb' (rec {s with inc:=s.inc+1,opn:=s.opn+1} g.text).2.2∧Fr F G w W'):=fun w hm he=>by
     obtain⟨m1,f1⟩:=hm.opens;refine(hrec (by omega) _ F rb _ k g.text m1 (he.fr f1) hk1 (by simp only;omega) hg1 hg2 hkb).mono ?_
     rintro e w' ⟨G,rb',rfl,m2,f2⟩
     exact⟨G,rb',rfl,m2,f1.trans f2⟩
    clear hrec hro hf hA hk hk1 hkk hkb;generalize rec {s with inc:=s.inc+1,opn:=s.opn+1} g.text=R at*;obtain⟨re,rn,rs⟩:=R;simp only at hopn CR⊢;have hop3:s.opn+1≤4:=by omega
    have HOP:=hide hopn;clear ho hopn
    go_enter_defers Tryz.func185,Tryz.ntmps185
    go_wp2_with (first
     |(go_at_call 87;refine(uh CT).mono ?_;clear CT;rintro e w1 ⟨rfl,hb1⟩;have HX:=hide (uh HM _ hb1);have d0:=(uh HX).2.2.2.cell? (i:=0) rfl;have d4:=(uh HX).1.row.cell? (i:=4) rfl;have d3:=(uh HX).1.row.cell? (i:=3) rfl;have f4:=(uh HX).1.row.frozen 4;have f3:=(uh HX).1.row.frozen 3;clear hb1)
     |(go_at_call 89;refine(uh CR _ (uh HX).1 (uh HX).2.2.1).mono ?_;clear CR;rintro e w2 ⟨G,rb',rfl,hm2,hf2⟩;have HM2:=hide hm2;have HF2:=hide hf2;clear hm2 hf2)
     |fail)
    have hopn:=uh HOP;have hrow:Row w2 W.heap.size 264 [.pointer (some ⟨c.rd,0,none⟩)]:=(uh HX).2.2.2.tn (uh HF2).tn (fun e=>e hgt);refine leaves_cons (f:=233) (args:= #[.pointer (some ⟨W.heap.size,0,none⟩)]) (by simp) (by simp[go_sem]) ?_;refine(shut_any W.heap.size .returning (uh HM2) hrow (by omega) (by omega)).mono ?_
    rintro e u' w5 ⟨rfl,rfl,hm5,hf5⟩
    exact⟨_,results_tmp2 rfl _ _ _,G,rb',rfl,hm5,((uh HX).2.1.trans (uh HF2)).trans hf5⟩
end
section
variable {W X:World} {F G:Foot} {c:Ad} {rb:Nat→Nat} {s:St} {bf bi:Nat} {ve:Value} {ef:List Pl.Eff} {fs:List Pl.File} {clock:Int} {M o k:Nat} {rec:St→Pl.Bs→Nat×Nat×St}
structure FlI (W:World) (F:Foot) (c:Ad) (M:Nat) (rec:St→Pl.Bs→Nat×Nat×St) (fs:List Pl.File) (num:Nat) (ws:List Pl.Bs) (s:St) (k j:Nat) (X:World):Prop where
 mem:∃G rb' sj kj,RdM X G c rb' sj∧Fr F G W X∧Ok sj kj∧kj+(100-sj.inc)*M≤k+(100-s.inc)*M∧sj.opn=s.opn∧filesF rec fs num ws s=filesF rec fs num (ws.drop j) sj
theorem include_any (hrec:o≠3→RecC c bf bi ve ef fs clock M rec (o+1)) (hro:RecOk M rec) (hf:∀p g,Pl.look fs p=some g→g.text.length+1≤M∧g.text.length≤1073741824) (l:Mk.Ln) (h:RdM W F c rb s) (hE:En W F c.bx bf bi ve ef fs clock) (hk:Ok s k) (ho:s.opn=o) (ho3:o≤3) (hkk:k+(100-s.inc)*M≤4294967296) (hl:l.right.length≤1073741824):
 Calls Tryz.prog 138 #[.pointer (some ⟨c.rd,0,none⟩),lnV l] W fun e W' =>∃G rb',e= .returned (.tuple #[.int .i64 ((includeF rec fs s l).1:Int),.int .i64 ((includeF rec fs s l).2.1:Int)])∧RdM W' G c rb' (includeF rec fs s l).2.2∧Fr F G W W' :=by
 obtain⟨num,kind,L,R⟩:=l;have hA:includeF rec fs s ⟨num,kind,L,R⟩=if(expE s.names R).er≠0 then((expE s.names R).er,num,s) else filesF rec fs num (Mk.words (expE s.names R).txt) s:=rfl
 rw[hA];have b0:=(Below.refl W.heap.size W).alloc (Nat.le_refl _) (.cells #[.int .i64 num,.int .i64 kind,.string ⟨L.toArray⟩,.string ⟨R.toArray⟩] 164);have hrow:=Row.new W 164 [.int .i64 num,.int .i64 kind,.string ⟨L.toArray⟩,.string ⟨R.toArray⟩];have CE:=hide (rdExp_any R (h.later b0) hk.short (hE.glob.later b0) hl);have hel:=expE_len s.names R
 have HH:Hid (∀w,Below W.heap.size W w→RdM w F c rb s∧Fr F F W w∧En w F c.bx bf bi ve ef fs clock):=fun w hw=>⟨h.later hw,Fr.later hw,hE.later hw⟩
 have HOUT:Hid (∀k,W.heap.size≤k→F k=none):=fun k hk=>h.out hk
 have HB0:=hide b0;have HRW:=hide hrow;clear h hE b0 hrow hA;generalize expE s.names R=eR at*;obtain⟨tr,err,rfr_⟩:=eR;simp only at hel CE⊢
 by_cases h1:err=0
 ·subst h1
  rw[if_neg (by simp)];have a1:=words_len tr;have CW:=hide (fun w=>wordsB_any tr w hel);generalize Mk.words tr=ws at*
  go_enter Tryz.func138,Tryz.ntmps138
  unfold lnV
  go_wp2_with (first
   |(go_at_call 182;refine(uh CE).mono ?_;clear CE;rintro e w1 ⟨rfl,hb1⟩;have HR1:=hide ((uh HRW).later hb1);have HB1:=hide ((uh HB0).trans (hb1.mono (uh HB0).size));clear hb1)
   |(go_at_call 166;refine(uh CW w1).mono ?_;clear CW;rintro e w2 ⟨A1,rfl,ho2,hb2⟩;have HS2:Hid (SlF w2 F (.slice (some ⟨A1,0,none⟩) ws.length ws.length) ws):=SlF.ofOwn ho2 (fun k hk _=>uh HOUT k (Nat.le_trans (uh HB1).size hk));have HR2:=hide ((uh HR1).later hb2);have HX2:=hide (uh HH _ ((uh HB1).trans (hb2.mono (uh HB1).size)));clear ho2 hb2)
   |fail)
  have HX0:Hid (FlI w2 F c M rec fs num ws s k 0 w2):=⟨F,rb,s,k,(uh HX2).1,Fr.refl _ _,hk,Nat.le_refl _,rfl,by rw[List.drop_zero]⟩;have hFb:F W.heap.size=none:=uh HOUT _ (Nat.le_refl _);have HK:=hide hk;have HO:=hide ho;clear hk ho
  go_loopw [27] (fun iv wr=>∃j:Nat,iv= .int .i64 j∧j≤ws.length∧Hid (FlI w2 F c M rec fs num ws s k j wr)) (fun iv _=>ws.length-intN iv)
  case atStart=>exact⟨0,rfl,by omega,HX0⟩
  case round=>
   clear HX0;obtain⟨j,rfl,hj2,HX⟩:=hrel;obtain⟨G,rb',sj,kj,m1,f1,k1,k2,k3,k4⟩:=(uh HX).mem
   by_cases hj:j<ws.length
   ·have t1:(j:Int)<ws.length:=by omega
    have t0:(0:Int)≤(j:Int):=by omega
    have hS:=(uh HS2).fr f1
    rcases hS with⟨q,-⟩|⟨tb',tO',tc',q,x1,x2,x3,-⟩
    ·cases q
    cases q;have cn:=x3 j ws[j] (List.getElem?_eq_getElem hj);unfold strV at cn;rw[Nat.zero_add] at cn;have r0:=((uh HR2).tn f1.tn (fun e=>e hFb)).cell? (i:=0) rfl;have hdr:ws.drop j=ws[j]::ws.drop (j+1):=List.drop_eq_getElem_cons hj;have CF:=hide (includeFile_any hrec hro hf ws[j] num m1 ((uh HX2).2.2.fr f1) k1 (k3.trans (uh HO)) ho3 (Nat.le_trans k2 hkk))
    have HG:=hide (fileF_ok hro hf k1 ws[j] num)
    have HF4:Hid (filesF rec fs num ws s=if(fileF rec fs sj ws[j] num).1≠0 then fileF rec fs sj ws[j] num else filesF rec fs num (ws.drop (j+1)) (fileF rec fs sj ws[j] num).2.2):=by
     show _=_;rw[k4,hdr,filesF]
    have HF1:=hide f1;have HK2:=hide k2;have HK3:=hide k3;clear m1 f1 k1 k2 k3 k4 x3 hdr HX;generalize ws[j]=nme at*;generalize fileF rec fs sj nme num=rf at*;obtain⟨re,rn,rs⟩:=rf;simp only at CF HG HF4
    by_cases hre:re=0
    ·have u1:((re:Int) !=0)=false:=by rw[bne_eq_false_iff_eq];omega
     have HRE:=hide hre;clear hre
     go_wp2_with (first
      |(go_at_call 185;refine(uh CF).mono ?_;clear CF;rintro e w3 ⟨G3,rb3,rfl,hm3,hf3⟩;have HM3:=hide hm3;have HF3:=hide hf3;clear hm3 hf3)
      |fail)
     go_roundw
     case rel=>
      obtain⟨⟨k',g1,g2⟩,g3,g4⟩:=uh HG;refine⟨j+1,by go_num,by omega,⟨G3,rb3,rs,k',uh HM3,(uh HF1).trans (uh HF3),g1,?_,g3.trans (uh HK3),?_⟩⟩
      ·have:=uh HK2
       omega
      ·rw[uh HF4,if_neg (by simp[uh HRE])]
     case measure=>simp only[intN];omega
    ·have u1:((re:Int) !=0)=true:=by rw[bne_iff_ne];omega
     have HQ:Hid (filesF rec fs num ws s=(re,rn,rs)):=by
      show _=_;rw[uh HF4,if_pos hre]
     clear hre
     go_wp2_with (first
      |(go_at_call 185;refine(uh CF).mono ?_;clear CF;rintro e w3 ⟨G3,rb3,rfl,hm3,hf3⟩;have HM3:=hide hm3;have HF3:=hide hf3;clear hm3 hf3)
      |fail)
     go_ret2
     rw[uh HQ]
     first
      |exact⟨G3,rb3,rfl,uh HM3,((uh HX2).2.1.trans (uh HF1)).trans (uh HF3)⟩
      |exact⟨rfl,G3,rb3,uh HM3,((uh HX2).2.1.trans (uh HF1)).trans (uh HF3)⟩
   ·have hje:j=ws.length:=by omega
    subst hje;have t1:¬(ws.length:Int)<ws.length:=by omega
    have HF4:Hid (filesF rec fs num ws s=(0,0,sj)):=by
     show _=_;rw[k4,List.drop_length,filesF]
    have HM1:=hide m1;have HF1:=hide f1;clear m1 f1 k1 k2 k3 k4 HX
    go_wp2_with fail
    go_ret2
    rw[uh HF4]
    first
     |exact⟨G,rb',rfl,uh HM1,(uh HX2).2.1.trans (uh HF1)⟩
     |exact⟨rfl,G,rb',uh HM1,(uh HX2).2.1.trans (uh HF1)⟩
     |exact⟨rfl,G,⟨rb',uh HM1⟩,(uh HX2).2.1.trans (uh HF1)⟩
 ·have t1:((err:Int) !=0)=true:=by rw[bne_iff_ne];omega
  rw[if_pos h1]
  go_enter Tryz.func138,Tryz.ntmps138
  unfold lnV
  go_wp2_with (first
   |(go_at_call 182;refine(uh CE).mono ?_;clear CE;rintro e w1 ⟨rfl,hb1⟩;have r0:=((uh HRW).later hb1).cell? (i:=0) rfl;have HX:=hide (uh HH w1.drew ((uh HB0).trans (hb1.mono (uh HB0).size)).drew);clear hb1)
   |fail)
  go_region
  all_goals go_wp2_with fail
  all_goals go_ret2
  all_goals exact⟨F,rb,rfl,(uh HX).1,(uh HX).2.1⟩
end
end Go.Proofs.YtjelacjggijmfaaGreatDoor
