/-
  Makes of package makerlaw: true for all files, paths, goals, effects and clocks.
-/
import Derived.Test.YtjelacjggijmfaaGreatDoorYEF6
set_option linter.all false
namespace Go.Proofs.YtjelacjggijmfaaGreatDoor
open Pl Mk Cp Proofs.Tryz
open RowKit
variable {b:fy}{c a d:Nat}{q:fY}{r:ay}
def Tf(m:lA b<=1048576)(f a:aj)(j:D7 b q c r)(n:dq r):∃d,ji (b.foldl Pl.bA []) f a d:=by have⟨l,i,k,g⟩:=j r (X5 _ _);obtain⟨e,o,p,⟨d,h,-⟩,-⟩:=E4 (DB m f a) q 0 l c r i k g n [];exact⟨d,h⟩
def Rv(q:lA b<=1048576){j A:aj}{d:ga}{S:fv}(i:Int)(s:S.length<=2097000)(u:∀f∈b,f.aL∈S)(r:∀e∈d,∀f∈e.cE,f.aL∈S){k:aj×Nat×Nat}(m:ji (b.foldl Pl.bA []) j A k):
 ∃O a g,KK k b d i O/\rK (eA b j) b A O.er O.ln a g/\O.cs.length<=8388608/\O.fl.length<=2097000/\(O.er=0->oB (eA b j) a g/\∃X,m_ d a (a.aY.zip g) (λ_=>false) (fK b i)=X/\X.aI=O.cs/\eB X.aW=O.fl/\X.exit=O.ex/\X.aQ=O.ck)/\(O.er≠0->O.cs=[]/\O.fl=[]/\O.ex=0/\O.ck=0):=by
 obtain⟨y,z,a,g,l,rfl,rfl,w⟩:=QE q m;by_cases h:k.2.1=0
 ·have⟨v,o⟩:=w h;have⟨p,c,n,x,t⟩:=o.W_ v;rw[h,(m.vG h).1]at l;exact⟨_,a,g,.inr ⟨h,p,c,n,x,rfl⟩,l,Ye (Ts n b d i) (Iu m h (y' q j A)),Ye (Re S c p b d i u r) s,λ_=>⟨o,_,(t d (fK b i) rfl).symm,rfl,rfl,rfl,rfl⟩,λe=>absurd rfl e⟩
 exact⟨_,a,g,.inl ⟨h,rfl⟩,l,Yh _,Yh _,λe=>absurd e h,λ_=>⟨rfl,rfl,rfl,rfl⟩⟩
def DW.set{O:tA}{B:Nat}{f:fY}(g:aF r c 32 [ς,ς,ι 0,ι 0])(l:fJ r B (.slice q O.cs.length a) O.cs)(j:gp r B (.slice f O.fl.length d) O.fl):
 DW O ((((r.ψ c 0 (.slice q O.cs.length a)).ψ c 1 (.slice f O.fl.length d)).ψ c 2 (ι O.ex)).ψ c 3 (ι O.ck)) c q a f d:=by
 have i:∀k,k≠c->((((r.ψ c 0 (.slice q O.cs.length a)).ψ c 1 (.slice f O.fl.length d)).ψ c 2 (ι O.ex)).ψ c 3 (ι O.ck)).heap[k]?=r.heap[k]?:=λk h=>by rw[Ys _ _ _ _ h,Ys _ _ _ _ h,Ys _ _ _ _ h,Ys _ _ _ _ h]
 refine⟨by simpa using(((g.set 0 (.slice q O.cs.length a)).set 1 (.slice f O.fl.length d)).set 2 (ι O.ex)).set 3 (ι O.ck),B,bI l λk e=>i k λb=>?_,bI j λk e=>i k λb=>?_⟩
 ·rw[b]at e;exact sO g l (by decide) e.symm
 rw[b]at e;exact sO g j (by decide) e.symm
set_option maxHeartbeats 4000000 in
set_option maxRecDepth 100000 in
theorem makes_any(x u:aj)(i:fy)(J:lA i<=1048576)(j:ga)(S:fv)(a G:fY)(cap am ce oe:Nat)(aQ:Int)(w:ay)(aa:D7 i a am w)(ap:LC j G oe w)(av:j.length<=8388608)(ai:∀e∈j,e.cE.length<=8388608)(b0:S.length<=2097000)(aw:∀f∈i,f.aL∈S)(aE:∀e∈j,∀f∈e.cE,f.aL∈S)(bO:∀d∈S,d.length<=maxLen)(hg:dq w):
 γ 4 #[.slice a i.length cap,σ x,σ u,.slice G j.length ce,ι aQ] w (.bool true):=by
 unfold γ σ ι;have:=BC i;obtain⟨p0,hp⟩:=Ic;have a_:=Rb hp;have⟨b7,C⟩:=Tf J x u aa hg;have⟨O,bS,ls,hO,Y,bV,b9,bG,bD⟩:=Rv J aQ b0 aw aE C;obtain⟨s1,R⟩:∃s1:aA,s1=⟨#[99,99,32,45,111,32,97,46,111,32,97,46,99]⟩:=⟨_,rfl⟩;have:s1.toList=[99,99,32,45,111,32,97,46,111,32,97,46,99]:=by rw[R,Zx]
 have K1:=aC Rf;have K2:=Q0;have K3:=λW b (c:μ w W) hr hl=>Tg hp a_ W b (hg.aD c) hr hl;rw[<-R]at K3;have C1:∀W,μ w W->Calls prog 12 #[.slice a i.length cap] W λe g=>∃c,e=.returned (ξ c i.length (i.length+8))/\CR g c 65 (i++iw i.length)/\μ W g:=λW c=>by have⟨b',H,p2,P⟩:=aa W c;exact(AO i a cap b' am W H p2 P (by omega)).mono λ_ _ ⟨M,I,K⟩=>⟨_,M,I,K⟩
 have C2:∀W,μ w W->Calls prog 21 #[.slice G j.length ce] W λe g=>∃v,e=.returned (ξ v j.length (j.length+8))/\gM v j (j.length+8) g/\μ W g:=λW c=>by have⟨L',a7,p4,p5,p6⟩:=ap W c;exact(Ob j G ce L' a7 oe W p4 p5 p6 av ai).mono λ_ _ ⟨M,I,K⟩=>⟨_,M,I,K⟩
 have C3:∀W,μ w W->Calls prog 15 #[.slice a i.length cap,σ x,σ u] W λe g=>∃n,e=.returned (π n)/\μ W g/\n<g.heap.size/\g.χ n 3=some (ι O.er)/\g.χ n 4=some (ι O.ln)/\(O.er=0->tB i (eA i x) bS ls g n):=λW c=>by have⟨b',H,p2,P⟩:=aa W c;refine(NT ax (Gk J) (by omega) (Ye (AT i) J) x u a cap b' am (λq=>⟨H q,P⟩) p2 (Oz i x) Y).mono ?_;rintro e g⟨n,rfl,M,I,K,x4,x5⟩;exact⟨n,rfl,M,I,K,x4,x5⟩
 have C4:O.er=0->∀W n,μ w W->tB i (eA i x) bS ls W n->Calls prog 18 #[π n,.slice a i.length cap,.slice G j.length ce,ι aQ] W λe g=>∃t s p o,e=.returned (.agg #[.slice t O.cs.length s,.slice p O.fl.length o,ι O.ex,ι O.ck])/\(∃B,fJ g B (.slice t O.cs.length s) O.cs/\gp g B (.slice p O.fl.length o) O.fl)/\μ W g:=λA W n c hR=>by have⟨hD,X,y1,z1,z2,z3,z4⟩:=bG A;rw[A]at Y;refine(UL ap av ai (by omega) aE aa (by omega) aw hD (PJ J Y) y1 W n c hR).mono ?_;rintro e g⟨t,s,p,o,rfl,⟨B,h3,h4⟩,h5⟩;rw[z1]at h3;rw[z2]at h4;rw[z1,z2,z3,z4];exact⟨t,s,p,o,rfl,⟨B,h3,h4⟩,h5⟩
 have C5:∀W c v,μ w W->CR W c 65 (i++iw i.length)->gM v j (j.length+8) W->Calls prog 20 #[ξ c i.length (i.length+8),σ x,σ u,ξ v j.length (j.length+8),ι aQ] W λe g=>Dv O W.heap.size e g/\μ W g:=λW c v L hc hm=>by exact(Im (DB J x u) (λb7 h h0=>Iu h h0 (y' J x u)) j S (some (η c 0)) (some (η v 0)) _ c 0 _ W.heap.size v 0 aQ W (λ_=>rfl) (CR.fst hc) (aF.lt hc) (hg.aD L) ⟨λ_=>rfl,hm.rd,aE,av,ai,by omega⟩ ax aw bO).mono λe g h=>h.out C hO
 have C6:∀W c,μ w W->CR W c 65 (i++iw i.length)->γ 16 #[ξ c i.length (i.length+8),.slice a i.length cap] W (.bool true):=λW c L hc=>by have⟨b',H,p2,P⟩:=aa W L;exact Gx i a cap b' am c W H p2 P (by omega) hc
 have C7:∀W v,μ w W->gM v j (j.length+8) W->γ 25 #[ξ v j.length (j.length+8),.slice G j.length ce] W (.bool true):=λW v L hm=>by have⟨L',a7,p4,p5,p6⟩:=ap W L;exact LJ j G ce L' a7 oe v W p4 p5 p6 av ai hm
 have bo:=aC bD;clear aa ap ai aw aE bO hg C hO Y bG bD a_;go_in;go_upto_region 8 with(first|(go_at_call 13;refine κ (K1 _) λw1⟨bk,bl,bT⟩=>?_;have bx:=aC bl;clear bl K1)|(go_at_call 12;refine κ (K2 _ _ bk bx) λw2⟨a',bF,bz⟩=>?_;have aU:=bT.tr bz;have bE:=aC bF;clear bz bF K2 bx)|(go_at_call 20;refine(K3 _ _ aU a' bE).mono ?_;rintro e w3⟨s,b1,p,o,ex,rfl,H,bw,bB⟩;have F:μ w3 (w3.alloc (.cells #[ξ b1 2 s,.slice p 3 o,ι ex,ι 12] 48)):=ak _ _;have P:=(F.cell (p:=η b1 0) bw).trans H;have a8:=aU.tr bB;have aX:=a8.tr F;clear bB F bw a8 H K3 aU bE)|(go_at_call 12;refine(C1 _ aX).mono ?_;rintro e y⟨aG,rfl,bN,al⟩;have V:=aX.tr al;clear al C1 aX)|(go_at_call 21;refine(C2 _ V).mono ?_;rintro e w5⟨aB,rfl,bh,a5⟩;have a0:=V.tr a5;have aI:=CR.aP bN a5 (aF.lt bN);clear a5 C2 V)|(go_at_call 15;refine(C3 _ a0).mono ?_;rintro e r⟨n,rfl,au,ag,q3,q4,bf⟩;have aO:=a0.tr au;have aH:=CR.aP aI au (aF.lt aI);have bJ:=bh.aD au;have Q3:=aC q3;have Q4:=aC q4;clear au q3 q4 C3 a0 aI))
 have a6:μ r (r.alloc (.cells #[ς,ς,ι 0,ι 0] 32)):=ak _ _;have aT:=aF.bq r 32 [ς,ς,ι 0,ι 0];have q3:=(a6.cell (p:=η n 3) ag).trans Q3;go_upto_if 77 with fail
 rename_i K1 bm;go_cut [] from 27 (λwc=>Hid (∃t s p o,DW O wc r.heap.size t s p o)/\Hid (μ r wc))
 case first=>
  by_cases A:O.er=0
  ·have:((O.er:Int)==0)=true:=by rw[A];rfl
   have:(O.er:Int)=0:=by rw[A];rfl
   have bZ:=C4 A;have b8:=tB.aD (bf A) a6;clear A C4;go_wp2_with (go_at_call 18;refine(bZ _ _ (aO.tr a6) b8).mono ?_;rintro e z⟨a3,c3,a4,c4,rfl,⟨B,a9,bH⟩,aK⟩;have N:=aT.aD aK;have bn:=a6.tr aK;have aM:=DW.set N a9 bH;have D:=aC ((((bn.setCell (p:=η r.heap.size 0) ax (.slice a3 O.cs.length c3)).setCell (p:=η r.heap.size 1) ax (.slice a4 O.fl.length c4)).setCell (p:=η r.heap.size 2) ax (ι O.ex)).setCell (p:=η r.heap.size 3) ax (ι O.ck));have g0:=N.cell 0 (by simp);have g1:=N.cell 1 (by simp);have g2:=N.cell 2 (by simp);have g3:=N.cell 3 (by simp);simp only[X6,X7]at g0 g1 g2 g3;have:=N.frozen;clear a9 bH aK N bn)
   go_meet
   exact⟨⟨_,_,_,_,aM⟩,D⟩
  have:((O.er:Int)==0)=false:=by simp;exact A
  have:¬(O.er:Int)=0:=by omega
  have HZ:=aC (bo A);clear A;go_wp2
  go_meet
  have⟨z1,z2,z3,z4⟩:=HZ;refine⟨⟨none,0,none,0,?_,0,?_,?_⟩,a6⟩
  ·rw[z1,z2,z3,z4];exact aT
  ·rw[z1];exact uA
  rw[z2];exact uA
 refine bm _ _ ?_;clear bm;obtain⟨bA,D⟩:=hcut;have⟨a3,c3,a4,c4,be⟩:=bA;have aM:=be;have ab:=CR.aP aH D (aF.lt aH);have ah:=bJ.aD D;have b6:=aC ((D.cell (p:=η n 3) ag).trans Q3);have cd:=aC ((D.cell (p:=η n 4) ag).trans Q4);have bs:=aO.tr D;have bX:=Yo ag D.size;clear bA be aH bJ Q3 Q4 q3 aO D aT ag C4 bo;have bK:pP wc wc.heap.size 0 (wc.alloc (.cells #[ς,ς] 57)):=⟨ak _ _,_,_,_,eU.first (aF.bq wc 57 [ς,ς]),λcj hj=>by omega⟩;have CB:∀W,μ wc W->μ w W:=λW c=>bs.tr c;have b_:∀W,μ wc W->Calls prog 20 #[ξ aG i.length (i.length+8),σ x,σ u,ξ aB j.length (j.length+8),ι aQ] W λe g=>Dv O W.heap.size e g/\μ W g:=λW c=>C5 W aG aB (CB W c) (CR.aP ab c (aF.lt ab)) (ah.aD c);have bY:∀W,μ wc W->γ 16 #[ξ aG i.length (i.length+8),.slice a i.length cap] W (.bool true):=λW c=>C6 W aG (CB W c) (CR.aP ab c (aF.lt ab));have cc:∀W,μ wc W->γ 25 #[ξ aB j.length (j.length+8),.slice G j.length ce] W (.bool true):=λW c=>C7 W aB (CB W c) (ah.aD c);clear C5 C6 C7 ab ah;go_wp2
 go_loopw [19,20] (λok iv wr=>∃l:Nat,ok=.bool true/\iv=ι l/\l<=2/\Hid (pP wc wc.heap.size l wr)) (λ_ iv _=>2-aV iv)
 case atStart=>exact⟨0,rfl,rfl,by omega,bK⟩
 clear bK;obtain⟨l,rfl,rfl,cg,HM⟩:=hrel;have L:wc.heap.size<wr.heap.size:=by obtain⟨E,ar,aq,C,-⟩:=HM.bW;exact C.row.lt
 by_cases hi:l<2
 ·have:(l:Int)<2:=by omega
  have ao:∀W,μ wr W->μ wc W:=λW c=>HM.aP.trans (c.mono (by omega));have CK:∀(W:ay) (vc vr:az),μ wr W->fJ W wr.heap.size vc O.cs->pZ W wr.heap.size vr O.fl->Calls prog 23 #[π wc.heap.size,.agg #[vc,vr,ι O.ex,ι O.ck]] W λe g=>e=.returned (.tuple #[])/\pP wc wc.heap.size (l+1) g:=λW vc vr c C h2=>by have⟨E,ar,aq,k1,k2⟩:=HM.bW;refine κ (Tp l wc.heap.size wr.heap.size E ar aq vc vr O.cs.length O.fl.length _ _ O.ex O.ck W hi (k1.aD c) k2 L c.size C h2 bV b9) λg⟨⟨E',cf,b3,Y,q2⟩,b4⟩=>?_;exact⟨rfl,(ao W c).trans b4,E',cf,b3,Y,q2⟩
  have CL:∀W Z,pP wc wc.heap.size (l+1) W->μ W Z->pP wc wc.heap.size (l+1) Z:=λW Z h c=>h.aD (by obtain⟨E,ar,aq,k1,-⟩:=h.bW;exact k1.row.lt) c;have CW:∀W,pP wc wc.heap.size (l+1) W->Calls prog 24 #[π wc.heap.size] W λe g=>e=.returned (.bool true)/\pP wc wc.heap.size (l+1) g:=λW h=>by obtain⟨E,ar,aq,k1,-⟩:=h.bW;refine κ (QI (l+1) wc.heap.size (by omega) W k1.WI) λg c=>?_;exact⟨rfl,CL _ _ h c⟩
  have:((O.er:Int)==O.er)=true:=by simp
  go_upto_region 16 with(first|(go_at_call 20;refine(b_ _ HM.aP).mono ?_;rintro e y⟨⟨t,s,p,o,rfl,R,bR⟩,al⟩;have V:=al;clear al))
  have F:μ y (y.alloc (.cells #[.slice t O.cs.length s,.slice p O.fl.length o,ι O.ex,ι O.ck] 48)):=ak _ _;have rL:=aF.bq y 48 [.slice t O.cs.length s,.slice p O.fl.length o,ι O.ex,ι O.ck];obtain⟨m,aY⟩:∃m,m=y.alloc (.cells #[.slice t O.cs.length s,.slice p O.fl.length o,ι O.ex,ι O.ck] 48):=⟨_,rfl⟩;rw[<-aY]at F⊢;have Q:aF m y.heap.size 48 [.slice t O.cs.length s,.slice p O.fl.length o,ι O.ex,ι O.ck]:=by rw[aY];exact rL
  have ac:=V.tr F;have aR:=fJ.aD R F;have an:pZ m wr.heap.size (.slice p O.fl.length o) O.fl:=bI bR (λk hk=>F.block k (Yt bR k hk).2);have T:=aM.aD (ao _ ac);have y0:∀d:BW m,d.val.χ y.heap.size 0=some (.slice t O.cs.length s):=BW.cell (Q.cell? (i:=0) rfl);have y1:∀d:BW m,d.val.χ y.heap.size 1=some (.slice p O.fl.length o):=BW.cell (Q.cell? (i:=1) rfl);have y2:∀d:BW m,d.val.χ y.heap.size 2=some (ι O.ex):=BW.cell (Q.cell? (i:=2) rfl);have y3:∀d:BW m,d.val.χ y.heap.size 3=some (ι O.ck):=BW.cell (Q.cell? (i:=3) rfl);have x0:∀d:BW m,d.val.χ r.heap.size 0=some (.slice a3 O.cs.length c3):=BW.cell (T.1.cell? (i:=0) rfl);have M:∀d:BW m,d.val.χ r.heap.size 1=some (.slice a4 O.fl.length c4):=BW.cell (T.1.cell? (i:=1) rfl);have I:∀d:BW m,d.val.χ r.heap.size 2=some (ι O.ex):=BW.cell (T.1.cell? (i:=2) rfl);have K:∀d:BW m,d.val.χ r.heap.size 3=some (ι O.ck):=BW.cell (T.1.cell? (i:=3) rfl);have z3:∀d:BW m,d.val.χ n 3=some (ι O.er):=BW.cell (((ao _ ac).cell (p:=η n 3) bX).trans b6);have z4:∀d:BW m,d.val.χ n 4=some (ι O.ln):=BW.cell (((ao _ ac).cell (p:=η n 4) bX).trans cd);have ba:∀d:BW m,Calls prog 22 #[.agg #[.slice t O.cs.length s,.slice p O.fl.length o,ι O.ex,ι O.ck],.agg #[.slice a3 O.cs.length c3,.slice a4 O.fl.length c4,ι O.ex,ι O.ck]] d.val λe U=>e=.returned (.bool true)/\∃p':BW m,U =p'.val:=λd=>(DW.same (T.aD d.ok) bV (by omega) (aR.aD d.ok) (bI an (λk hk=>d.ok.block k (Yt an k hk).2))).mono (λe U ⟨C,h2⟩=>⟨C,⟨U,d.ok.tr h2⟩,rfl⟩);have bt:∀(z:Int) (d:BW m),Calls prog 17 #[ι z] d.val λe U=>e=.returned (ι z)/\∃p':BW m,U =p'.val:=λz d=>(UY z d.val).mono (λe U ⟨C,h2⟩=>⟨C,d,h2.symm⟩);have aS:Nonempty (BW m):=⟨⟨m,X5 _ _⟩⟩;clear rL F aY T V;refine xS m (X5 _ m).drew (by kernel_rfl) (by kernel_rfl) ?_
  repeat (first|go_big_quiet_skip|quiet_step (first|exact ba _|exact bt _ _))
  refine afN ?_;rintro _⟨d,rfl⟩;obtain⟨wx,ad⟩:=d;have b5:=aR.aD ad;have cb:pZ wx wr.heap.size (.slice p O.fl.length o) O.fl:=bI an (λk hk=>ad.block k (Yt an k hk).2);have b2:=ac.tr ad;have rx:=Q.aD ad;have g0:=rx.cell? (i:=0) rfl;have g1:=rx.cell? (i:=1) rfl;have g2:=rx.cell? (i:=2) rfl;have g3:=rx.cell? (i:=3) rfl;simp only;clear x0 M I K y0 y1 y2 y3 z3 z4 rx ad ba bt aS;go_wp2_with (first|(go_at_call 23;refine κ (CK _ _ _ b2 b5 cb) λw8 bU=>?_;have ah:=bU;clear bU)|(go_at_call 24;refine κ (CW _ ah) λw9 bi=>?_)|(go_at_call 16;refine κ (bY _ bi.aP) λcl bM=>?_;have bQ:=CL _ _ bi bM;clear bM)|(go_at_call 25;refine κ (cc _ bQ.aP) λci bb=>?_;have ca:=CL _ _ bQ bb;clear bb))
  all_goals go_roundw
  case rel=>exact⟨l+1,rfl,by go_num,by omega,ca⟩
  simp only[aV];omega
 have:¬(l:Int)<2:=by omega
 go_wp2
 go_ret;exact⟨rfl,bs.tr HM.aP⟩


