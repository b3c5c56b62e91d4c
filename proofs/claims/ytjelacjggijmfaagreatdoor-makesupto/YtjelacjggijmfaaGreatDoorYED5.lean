/- . -/
import Derived.Test.YtjelacjggijmfaaGreatDoorYGE8
import Derived.Test.YtjelacjggijmfaaGreatDoorYED6
set_option linter.all false
set_option maxHeartbeats 8000000
set_option maxRecDepth 20000
namespace Go.Proofs.YtjelacjggijmfaaGreatDoor
open Pl Mk Cp Proofs.Tryz
open RowKit
section
variable {L0 W X:ay}{bb lb g ca:Nat}{vf v:az}{fs:fy}{m:Bm}{E:List Rm}{z:Rm}{o:Obj}{vs:f'}{n:Bk}
def km.gC(k:km m n)(i:n.aG≠[]):∃E z rs c,m.xs=E++[z]/\n.aG=rs++[c]/\E.map Rm.key=rs.map Ru.key/\Rm.key z=Ru.key c/\rs.length=E.length:=by have f:=k.len;have l:m.xs≠[]:=λe=>i (by rw[e]at f;exact Y4.1 f.symm);have d:=(ZA l).symm;have j:=(ZA i).symm;have h:=k.rs;rw[d,j,Yy,Yy]at h;have a:=List.append_inj' h rfl;exact⟨_,_,_,_,d,j,a.1,by simpa using a.2,by have:=Yg List.length a.1;simpa using this.symm⟩
def Bm.U_(m:Bm)(a:List Rm)(z:Rm):({m with xs:=a++[z]}:Bm).os=[m.vN,m.vR,z.vs,z.vl]:=by unfold Bm.os;rw[Bm.pH rfl]
def uq(c:W.ownsRow (bb+1) 147 6 (ξ g lb ca) lb ((E++[z]).flatMap my)):∀a u,(my z)[a]?=some u->W.cell? ⟨g,E.length*6+a,none⟩=some u:=λa u b=>by have d:a<6:=(Yl.1 b).1;refine gY c _ u ?_;rw[qA (f:=my) (λ_=>rfl) (E++[z]) E.length a (by simp) d];simp only[aeo];exact b
def IN{a:ib}{c:Addr}(h:aF W lb bb vs)(f:W.grownBy X a)(e:some lb≠a)(d:lb≠c.block):aF (X.setCell c vf) lb bb vs:=(Ys _ _ _ _ d).trans ((f.block lb h.lt e).trans h)
section
def cV.Wq(h:cV L0 W bb vf fs m)(l:m.xs=E++[z])(n:m.vR=ξ g m.xs.length ca)(c:aj)(y:(W.alloc o).drew.grownBy X z.vs.ownBlock)(C:X.ownsRow (bb+1) 9 1 v (z.ss.length+1) (z.ss.map aK++[aK c]))(A:v.ownBlock=z.vs.ownBlock\/v.ownBlock=some (W.alloc o).heap.size)(i:aF W lb 218 vs)(p:∀v∈m.os,∀q,v.ownBlock=some q->q<lb):
 cV L0 (X.ψ g (E.length*6+2) v) bb vf fs {m with xs:=E++[{z with ss:=z.ss++[c],vs:=v}]}/\ej W (X.ψ g (E.length*6+2) v) bb m.os [m.vN,m.vR,v,z.vl]/\X.cell? ⟨bb,2,none⟩=some m.vR/\X.cell? ⟨g,E.length*6+2,none⟩=some z.vs/\X.frozen? (η g (E.length*6+2))=false/\aF X lb 218 vs/\aF (X.ψ g (E.length*6+2) v) lb 218 vs:=by
 have u:=Bm.pH l;have d:=pD y;have t:=h.mQ;have b:=h.ng;rw[u]at t b;have⟨x,D,w,B⟩:=h.vA (z':={z with ss:=z.ss++[c],vs:=v}) (j:=2) (v:=v) l n rfl ⟨rfl,rfl,rfl,rfl⟩ d (.inl rfl) (by simpa using C) (bI b λk r=>d.block k (Yt b k r).2 (cV.ap b t (by decide) k r)) (λq a=>by
  obtain e|e:=A
  ·exact .inr (e▸a)
  rw[show v.ownBlock=some q from a]at e;cases e;exact .inl (by simp)) (λq a=> .inr a)
 have f:=B;rw[n,l]at f;have:=p m.vR (by simp[Bm.os]) g (by rw[n];rfl);have s:some lb≠z.vs.ownBlock:=λe=>by have:=p m.dN.vs (by simp[Bm.os]) lb (by rw[u];exact e.symm);omega
 exact⟨x,D,w.cell 2 (by simp),uq f 2 _ rfl,wH f _,(d.block lb i.lt s).trans i,IN i d s (show lb≠g by omega)⟩
def cV.WS(h:cV L0 W bb vf fs m)(l:m.xs=E++[z])(s:m.vR=ξ g m.xs.length ca)(c:Nat)(w:(W.alloc o).drew.grownBy X z.vl.ownBlock)(B:X.ownsRow (bb+1) 3 1 v (z.ls.length+1) (z.ls.map dC++[dC c]))(x:v.ownBlock=z.vl.ownBlock\/v.ownBlock=some (W.alloc o).heap.size)(i:aF W lb 218 vs)(n:some lb≠z.vl.ownBlock)(A:lb≠g):
 cV L0 (X.ψ g (E.length*6+3) v) bb vf fs {m with xs:=E++[{z with ls:=z.ls++[c],vl:=v}]}/\ej W (X.ψ g (E.length*6+3) v) bb m.os [m.vN,m.vR,z.vs,v]/\X.cell? ⟨bb,2,none⟩=some m.vR/\X.cell? ⟨g,E.length*6+3,none⟩=some z.vl/\X.frozen? (η g (E.length*6+3))=false/\aF X lb 218 vs/\aF (X.ψ g (E.length*6+3) v) lb 218 vs:=by
 have b:=pD w;have d:=h.mQ;have r:=h.ng;rw[Bm.pH l]at d r;have⟨u,D,t,y⟩:=h.vA (z':={z with ls:=z.ls++[c],vl:=v}) (j:=3) (v:=v) l s rfl ⟨rfl,rfl,rfl,rfl⟩ b (.inr rfl) (bI d λk p=>b.block k (Yt d k p).2 (cV.ap d r (by decide) k p)) (by simpa using B) (λq a=> .inr a) (λq a=>by
  obtain e|e:=x
  ·exact .inr (e▸a)
  rw[show v.ownBlock=some q from a]at e;cases e;exact .inl (by simp))
 have f:=y;rw[s,l]at f;exact⟨u,D,t.cell 2 (by simp),uq f 3 _ rfl,wH f _,(b.block lb i.lt n).trans i,IN i b n A⟩
end
def TR(h:cV L0 W bb vf fs m)(s:km m n)(h0:n.cH=0)(hS:nM n)(aS:n.aG≠[])(b:Nat)(kd:Int)(L:aA)(c:aj):
 Calls prog 105 #[π bb,qX b kd L ⟨c.toArray⟩] W λx W'=>oG L0 bb vf fs m.os (lY n c b) W x W':=by
 unfold π;obtain⟨o,z,rs,M,R,Y,bm,ap,aX⟩:=s.gC aS;have aM:ly n=M:=by unfold ly;rw[Y];simp
 have aE:n.aG.length-1=o.length:=by rw[Y];simp;omega
 have aP:=hS.aG M (by rw[Y];simp);have aL:=ap;unfold Rm.key Ru.key at aL;simp only[adH]at aL;obtain⟨q1,q2,q3,q4,q5,q6⟩:=aL;have ac:z.ss.length=M.cs.length:=by rw[q3,Yk]
 have bl:z.ls.length=z.ss.length:=by rw[q4,Yk,ac]
 have HT:Hid (pL n=(decide (z.ss.length=0)&&(!z.cD&&z.tg.any λD=>(gh n.aG D (o.length:Int)).isSome))):=aC (by unfold pL;rw[aM,aE,ac,q5,q1]);have a':Hid (pL n=true->lY n c b=n.dH 6 b):=aC λe=>by unfold lY;rw[Yd e]
 have bD:Hid (pL n=false->lY n c b={n with aG:=rs++[{M with cs:=M.cs++[(c,b)]}]}):=aC λe=>by unfold lY;rw[e,Yb (by decide),aM,aE,Y,Zc _ _ (by omega),aX,ta];rfl
 have b5:o.length<=64:=by have:=hS.fU;omega
 have bW:z.ss.length<=110000000:=by rw[ac];exact aP.cs
 have bZ:z.tg.length<=2000:=by rw[q1];exact aP.tg
 have HI:=aC s;have HS:=aC hS;have HK:Hid (o.map Rm.key=rs.map Ru.key/\Rm.key z=Ru.key M/\n.aG=rs++[M]/\z.ls.length=z.ss.length):=aC ⟨bm,ap,Y,bl⟩;obtain⟨i0,bk,a8,A,bi⟩:=Y1 Tryz.kZ;obtain⟨i1,aY,bj,aU,ba⟩:=Y1 Tryz.JY;have bM:=aC bk;have bN:=aC a8;have bO:=aC A;have bz:=aC bi;have bt:=aC aY;have bu:=aC bj;have bH:=aC aU;have bK:=aC ba;clear bk a8 A bi aY bj aU ba;have a_:μ W (W.alloc (.cells #[ι (b:Int),.int .u8 kd,.string L,σ c] 218)):=ak W _;obtain⟨d,bp⟩:=h.aD a_;have HB:=aC (aF.bq W 218 [ι (b:Int),.int .u8 kd,.string L,σ c]);have b7:bb<W.heap.size:=h.row.lt;have ag:Hid (∀v∈m.os,∀q,v.ownBlock=some q->q<W.heap.size):=aC λv U q B=>(h.bG v U q B).2;clear bm ap Y aM aE aP q1 q2 q3 q4 q5 q6 aX s hS aS h a_ bl ac;unfold qX ι;go_enter func105,ntmps105;go_upto_region 1 with fail
 generalize bJ:W.alloc (.cells #[ι (b:Int),.int .u8 kd,.string L,σ c] 218)=X at*;generalize bx:W.heap.size=lb at*;clear bJ bx;have an:=aC bp;have a5:m.xs.length=o.length+1:=by rw[R];simp
 obtain⟨g,ca,U,b6,bV⟩:=dv d.gP (by omega);obtain⟨-,-,c2,-,c4,-⟩:=d.cells;rw[U,a5]at c2;have hz:=d.qY z (by rw[R];simp);obtain⟨a1,k1,e1⟩:=hz.t.jm;obtain⟨a2,k2,e2⟩:=hz.n.jm;have ah:m.dN=z:=Bm.pH R;have ar:=d.mQ;have am:=d.ng;rw[ah]at ar am;obtain⟨a3,k3,Q⟩:=dR ar;obtain⟨a4,k4,e4⟩:=dR am;have j:=d.gP;rw[U,R]at j;have N:=uq j;have d0:=N 0 _ rfl;have d1:=N 1 _ rfl;have d2:=N 2 _ rfl;have d3:=N 3 _ rfl;have d4:=N 4 _ rfl;have d5:=N 5 _ rfl;rw[e1,ZH]at d0;rw[e2]at d1;rw[Q]at d2;rw[e4,HK.u.2.2.2]at d3;have HO:Hid (∀w,μ X w->∀D:aj,γ 109 #[π bb,σ D,ι (o.length:Int)] w (ir (gh n.aG D (o.length:Int)))):=aC λw hb D=>Gq ((d.vB HI.u).aD hb) HS.u D _;have H1:=aC d;have Z:=aC R;have G:=aC U;have a7:=aC ah;have HE:Hid (z.vs=.slice a3 z.ss.length k3/\z.vl=.slice a4 z.ls.length k4):=aC ⟨Q,e4⟩;have aT:=aC hz.t;rw[e1]at aT;have bX:(o.length:Int)<((o.length:Int)+1):=by omega
 clear ar am hz N j d R U ah e1 e2 Q e4 bp a5;go_wp2_with fail
 have aZ:μ X (X.alloc (.cells #[.slice a1 z.tg.length k1,.slice a2 z.nd.length k2,.slice a3 z.ss.length k3,.slice a4 z.ss.length k4,.bool z.cD,.bool z.ph] 147)):=ak X _;have af:=aF.bq X 147 [.slice a1 z.tg.length k1,.slice a2 z.nd.length k2,.slice a3 z.ss.length k3,.slice a4 z.ss.length k4,.bool z.cD,.bool z.ph];generalize bL:X.alloc (.cells #[.slice a1 z.tg.length k1,.slice a2 z.nd.length k2,.slice a3 z.ss.length k3,.slice a4 z.ss.length k4,.bool z.cD,.bool z.ph] 147)=wB at*;have V:=aC aZ;have ai:=aC af;have bE:=af.lt;generalize bc:X.heap.size=rb at af ai bE;have bR:=aC bc;clear bL aZ af bc d0 d1 d2 d3 d4 d5 c2 c4;go_loopw [6] (λiv wr=>∃a:Nat,iv= ι a/\a<=z.tg.length/\Hid (∀f (S:f<z.tg.length),f<a->gh n.aG z.tg[f] (o.length:Int)=none)/\Hid (μ wB wr)) (λiv _=>z.tg.length-aV iv)
 case atStart=>exact⟨0,rfl,Yh _,aC λf S s=>(by omega),aC (X5 _ _)⟩
 obtain⟨a,rfl,s,HN,K⟩:=hrel;have ad:=ai.u.aD K.u;have b0:=ad.cell 0 (by simp);have b2:=ad.cell 2 (by simp);have b4:=ad.cell 4 (by simp);simp only[X6,X7]at b0 b2 b4;clear ad;go_upto_region 4 with fail
 go_cut [36] from 36 to 36 (λcv wx=>cv=.bool (decide (a<z.tg.length)&&(decide (z.ss.length=0)&& !z.cD))/\wx=wr)
 case first=>
  by_cases d:a<z.tg.length
  ·have t1:(a:Int)<z.tg.length:=by omega
   by_cases l:z.ss.length=0
   ·rw[l]at b2;obtain⟨pt,ax⟩:∃pt,pt=z.cD:=⟨_,rfl⟩;rw[<-ax]at b4;have bd:=aC ax;clear ax;cases pt with
    |true=>
     go_wp2_with fail
     go_meet
     exact⟨by rw[<-bd.u];simp[d,l],rfl⟩
    |false=>
     go_wp2_with fail
     go_meet
     exact⟨by rw[<-bd.u];simp[d,l],rfl⟩
   have t2:((z.ss.length:Int)==0)=false:=by rw[Yi];omega
   go_wp2_with fail
   go_meet
   exact⟨by simp[l],rfl⟩
  have t1:¬(a:Int)<z.tg.length:=by omega
  go_wp2_with fail
  go_meet
  exact⟨by simp[d],rfl⟩
 obtain⟨rfl,rfl⟩:=hcut;cases B:(decide (a<z.tg.length)&&(decide (z.ss.length=0)&& !z.cD)) with
 |true=>
  have d:a<z.tg.length:=by rw[Zn]at B;exact q9 B.1
  have t1:(a:Int)<z.tg.length:=by omega
  have HQ:Hid _:=aC B;obtain⟨a9,k9,b9,o9,bs,aW,bn⟩:=aT.u.aD (V.u.tr K.u);cases bs;obtain⟨rfl,-⟩:=aW (by omega);have e9:=bn a d;unfold aK at e9;have I:=aC (HO.u _ (V.u.tr K.u) z.tg[a]);clear aW bn;generalize hy:z.tg[a]=y at*;have HY:=aC hy;clear hy B;cases ho:gh n.aG y (o.length:Int) with
  |none=>
   rw[ho]at I;unfold ir iP at I;have a6:Hid (∀f (S:f<z.tg.length),f<a+1->gh n.aG z.tg[f] (o.length:Int)=none):=aC λf S l=>by
    by_cases e:f=a
    ·subst e;rw[HY.u];exact ho
    exact HN.u f S (by omega)
   go_wp2_with (go_at_call 109;refine κ I.u λw3 ab=>?_;have bg:=aC (K.u.tr ab);clear ab)
   first
    |exact⟨⟨a+1,by go_num,by omega,a6,bg⟩,by simp only[aV];omega⟩
    |(go_roundw;exact⟨a+1,by go_num,by omega,a6,bg⟩;simp only[aV];omega)
  |some k=>
   rw[ho]at I;unfold ir iP at I;have bP:Hid (lY n c b=n.dH 6 b):=aC (a'.u (by have l:=HQ.u;rw[Zn]at l;rw[HT.u,<-Bool.and_assoc,Zn];exact⟨l.2,Z1.2 ⟨y,by rw[<-HY.u];exact Ym d,by rw[ho];rfl⟩⟩));go_wp2_with (first|(go_at_call 109;refine κ I.u λw3 ab=>?_;have aH:=V.u.trans ((K.u.tr ab).mono V.u.size);obtain⟨p,f3⟩:=H1.u.aD aH;have aQ:=aC p;have aR:=aC (an.u.trans f3);have l0:=(HB.u.aD aH).cell 0 (by simp);simp only[X6]at l0;clear ab p f3 aH)|(go_at_call 106;refine(nX aQ.u HI.u h0 6 b).mono ?_;rintro e w4 hp;have HP:=aC (hp.bo aR.u);clear hp;obtain⟨⟨ev,rfl⟩,-⟩:=HP.u;skip))
   refine Yw (Zr rfl _ _ _) rfl ?_;rw[bP.u];exact⟨⟨_,rfl⟩,HP.u.2⟩
 |false=>
  have bv:Hid (pL n=false):=aC (by
   rw[HT.u,<-Bool.and_assoc];by_cases d:a<z.tg.length
   ·rw[Y6 d,Z7]at B;rw[B,qs]
   have l:(z.tg.any λD=>(gh n.aG D (o.length:Int)).isSome)=false:=by
    rw[pe];intro D ht;obtain⟨f,S,rfl⟩:=ZD ht;rw[HN.u f S (by omega)];decide
   rw[l,aek])
  have aq:=V.u.tr K.u;obtain⟨p,f3⟩:=H1.u.aD aq;have aR:=aC (an.u.trans f3);have aN:=aC (HB.u.aD aq);have bY:=p.row.lt;have bU:=aN.u.lt;have aQ:=aC p;have bS:g<wc.heap.size:=(Yt p.gP g (by rw[G.u];rfl)).2;have bT:lb≠bb:=by omega
  have j:=p.gP;rw[G.u,Z.u]at j;have d2:=uq j 2 _ rfl;rw[HE.u.1]at d2;obtain⟨-,-,c2,-,-,-⟩:=p.cells;rw[G.u,Z.u,X4,Yx]at c2;have l3:=aN.u.cell 3 (by simp);simp only[X6,X7]at l3;have br:=aC p.mQ;rw[a7.u,HE.u.1]at br;clear aq p f3 HN HO ai V K H1 an aT b0 b2 b4 B HB a' HT j;go_upto_region 9 with fail
  go_cut [] from 53 (λwx=>∃v1,Hid (cV L0 wx bb vf fs {m with xs:=o++[{z with ss:=z.ss++[c],vs:=v1}]})/\Hid (ej W wx bb m.os [m.vN,m.vR,v1,z.vl])/\Hid (aF wx lb 218 [ι (b:Int),.int .u8 kd,.string L,σ c]))
  case first=>
   go_region_law (refine sH rfl (.tmp 65) (.tmp 68) 30 rfl (bb+1) 9 i0 _ 1 16 YU bM.u bN.u bO.u bz.u rfl (by decide) _ z.ss.length _ (by simp[Act.eval]) (br.u.alloc _) (η _ 0) 1 1 [aK c] (by simp[Act.eval]) rfl (gX _ _ [aK c]) (by intro u hu;simp at hu;subst hu;rfl) (by unfold maxLen;omega) (by omega) (by simp;omega) ?_;intro v1 w2 E J H;rw[<-HE.u.1]at J H;obtain⟨g1,au,rfl,-,-⟩:=dv E (by omega);obtain⟨O,r2,r3,r4,r5,r6,T⟩:=aQ.u.Wq Z.u G.u c J E H aN.u ag.u;rw[G.u,Z.u,X4,Yx]at r3;rw[HE.u.1]at r4;have Q:=r6.cell 3 (by simp);simp only[X6,X7]at Q;obtain⟨-,-,r8,-,-,-⟩:=O.cells;rw[show ({m with xs:=o++[{z with ss:=z.ss++[c],vs:= ξ g1 (z.ss.length+1) au}]}:Bm).vR=m.vR from rfl,G.u,Z.u,X4,Yx]at r8;have e8:=T.cell 3 (by simp);simp only[X6,X7]at e8;have aw:=aC O;have av:=aC (aR.u.trans r2);have bC:=aC T;clear O r2 r6 T E J H)
   all_goals go_wp2_with fail
   all_goals go_meet
   all_goals exact⟨_,aw,av,bC⟩
  obtain⟨v1,F,bf,ao⟩:=hcut;obtain⟨i,A⟩:∃i:Rm,i={z with ss:=z.ss++[c],vs:=v1}:=⟨_,rfl⟩;rw[<-A]at F;obtain⟨r,C⟩:∃r:Bm,r={m with xs:=o++[i]}:=⟨_,rfl⟩;rw[<-C]at F;have P:r.xs=o++[i]:=by rw[C]
  have aa:r.vR= ξ g r.xs.length ca:=by rw[P,C];show m.vR=_;rw[G.u,Z.u];simp
  have aI:r.os=[m.vN,m.vR,v1,z.vl]:=by unfold Bm.os;rw[Bm.pH P,C,A]
  have a0:r.dN=i:=Bm.pH P;rw[<-aI]at bf;have j:=F.u.gP;rw[aa,P]at j;have d3:=uq j 3 _ rfl;have ae:i.vl=.slice a4 z.ss.length k4:=by rw[A];show z.vl=_;rw[HE.u.2,HK.u.2.2.2]
  have al:i.ls=z.ls:=by rw[A]
  rw[ae]at d3;obtain⟨-,-,bA,-,-,-⟩:=F.u.cells;rw[aa,P,X4,Yx]at bA;have l0:=ao.u.cell 0 (by simp);simp only[X6]at l0;have be:=aC F.u.ng;rw[a0,ae,al,HK.u.2.2.2]at be;have bQ:g<wc.heap.size:=(Yt F.u.gP g (by rw[aa];rfl)).2;have b1 :=F.u.row.lt;have b3 :=ao.u.lt;have aB:=aC P;have aO:=aC aa;have I:=aC aI;have bh:=aC ae;have bF:=aC al;have bw:Hid (some lb≠i.vl.ownBlock):=aC λe=>by have:=ag.u m.dN.vl (by simp[Bm.os]) lb (by rw[a7.u];rw[A]at e;exact e.symm);omega
  have bB:lb≠g:=λe=>by have:=ag.u m.vR (by simp[Bm.os]) g (by rw[G.u];rfl);omega
  have bI:Hid (∀v2:az,km {r with xs:=o++[{i with ls:=i.ls++[b],vl:=v2}]} (lY n c b)):=aC λv2=>by rw[bD.u bv.u];obtain⟨q1,q2,q3,-⟩:=HK.u;have s:=HI.u;refine⟨by rw[C];exact s.cZ,by rw[C];exact s.tk,by rw[C];exact s.er,by rw[C];exact s.ln,?_⟩;show(o++[_]).map Rm.key=(rs++[_]).map Ru.key;rw[Yy,Yy,q1];congr 1;unfold Rm.key Ru.key at q2;simp only[adH]at q2;obtain⟨p1,p2,p3,p4,p5,p6⟩:=q2;rw[A];simp[Rm.key,Ru.key,p1,p2,p3,p4,p5,p6]
  clear P aa aI a0 j ae al C A c2 l3 d2;go_wp2_with fail
  go_region_law (refine sH rfl (.tmp 84) (.tmp 87) 41 rfl (bb+1) 3 i1 _ 1 8 aeA bt.u bu.u bH.u bK.u rfl (by decide) _ z.ss.length _ (by simp[Act.eval]) (be.u.alloc _) (η _ 0) 1 1 [dC b] (by simp[Act.eval]) rfl (gX _ _ [dC b]) (by intro u hu;simp at hu;subst hu;rfl) (by unfold maxLen;omega) (by omega) (by simp;omega) ?_;intro v2 w2 E J H;rw[<-bh.u]at J H;rw[<-HK.u.2.2.2,<-bF.u]at E;obtain⟨g1,au,rfl,-,-⟩:=dv E (by omega);obtain⟨O,r2,r3,r4,r5,r6,T⟩:=F.u.WS aB.u aO.u b J E H ao.u bw.u bB;rw[aO.u,aB.u,X4,Yx]at r3;rw[bh.u]at r4;have Q:=r6.cell 0 (by simp);simp only[X6]at Q;obtain⟨-,-,r8,-,-,-⟩:=O.cells;rw[show ({r with xs:=o++[{i with ls:=i.ls++[b],vl:= ξ g1 (i.ls.length+1) au}]}:Bm).vR=r.vR from rfl,aO.u,aB.u,X4,Yx]at r8;have e8:=T.cell 0 (by simp);simp only[X6]at e8;have aw:=aC O;have av:=aC (bf.u.trans r2);clear O r2 r6 T E J H)
  all_goals go_wp2_with fail
  all_goals refine Yw (Zr rfl _ _ _) rfl ?_
  all_goals exact⟨⟨_,rfl⟩,_,aw.u,bI.u _,by rw[Bm.U_];exact av.u⟩
end
variable {L0 W wr w:ay}{bb T i:Nat}{vf v:az}{fs:fy}{xs:List (Nat×aj)}{rec:Bk->aj->Bk}{can d:Bool}{fin b f:Bk}{m a:Bm}
def xK(W:ay)(v:az)(e:List (Nat×aj)):Prop:=∃a b c,v=.slice a e.length b/\(0<e.length->a=some ⟨c,0,none⟩)/\
 ∀(k:Nat) (x:Nat×aj),e[k]?=some x->∃L d:aA,(rk (bD x.2)≠120->L=⟨(bD x.2).1.left.toArray⟩/\d=⟨(bD x.2).1.right.toArray⟩)/\
  W.cell? ⟨c,k*4,none⟩=some (ι x.1)/\W.cell? ⟨c,k*4+1,none⟩=some (.int .u8 (rk (bD x.2)))/\W.cell? ⟨c,k*4+2,none⟩=some (.string L)/\W.cell? ⟨c,k*4+3,none⟩=some (.string d)
def jl.vB(h:jl L0 bb v xs):xK L0 v xs:=by
 have⟨c,n,d⟩:=h;obtain⟨g,j⟩|⟨p,b,s,g,j,t,y⟩:=d.2
 ·exact⟨none,0,0,by rw[g,j],λh=>(by omega),λk x e=>(by have:=(Yl.1 e).1;omega)⟩
 subst g;refine⟨_,b,p,rfl,λ_=>rfl,?_⟩;intro k x e;obtain⟨a,⟨L,r,rfl,o⟩,f⟩:=n.at k x e;have:=(Yl.1 e).1;refine⟨L,r,o,?_,?_,?_,?_⟩
 ·have q:=d.cellAt (k*4) (by omega);have l:=f 0 (by omega);rw[ZH]at l;rw[q,l];rfl
 ·rw[d.cellAt (k*4+1) (by omega),f 1 (by omega)];rfl
 ·rw[d.cellAt (k*4+2) (by omega),f 2 (by omega)];rfl
 rw[d.cellAt (k*4+3) (by omega),f 3 (by omega)];rfl
def xK.cY{os l:f'}(h:xK W v xs)(r:Fz W bb os v)(s:ej W L0 bb os l):xK L0 v xs:=by have⟨a,b,c,f,e,t⟩:=h;refine⟨a,b,c,f,e,λk x g=>?_⟩;have⟨L,p,j,w,q,y,z⟩:=t k x g;have:=(Yl.1 g).1;have⟨o,n,u⟩:=r c (by rw[f,e (by omega)];rfl);have d:=s.jX c o n u;exact⟨L,p,j,(tq (a:=η c _) d).trans w,(tq (a:=η c _) d).trans q,(tq (a:=η c _) d).trans y,(tq (a:=η c _) d).trans z⟩
structure pg(L0 W:ay)(bb:Nat)(vf v:az)(fs:fy)(os:f')(xs:List (Nat×aj))(T rest:Nat)(rec:Bk->aj->Bk)(can:Bool)(fin:Bk)(i:Nat)(op:Bool)(m:Bm)(b:Bk)(wr:ay):Prop where
 mm:cV L0 wr bb vf fs m
 ii:km m b
 f:ej W wr bb os m.os
 w:xK wr v xs
 wz:Fz wr bb m.os v
 bd:iB T b (rest+mJ (xs.drop i))
 go:jT rec can fs (xs.drop i) b op=fin
 ne:op=true->b.aG≠[]
def Iy{c a:aj}(h:(gL b c a bb).cH=0):(gL b c a bb).aG≠[]:=by
 unfold gL at h⊢;split at h
 ·rename_i q;exact absurd h q
 split at h
 ·rename_i q;exact absurd h q
 split at h
 ·cases h
 split at h
 ·cases h
 rename_i e g f d;rw[Yb e,Yb g,Yb f,Yb d];simp
def RP{x:Nat×aj}(a:d=true->b.aG≠[])(h:(gA rec can fs b d x).1=true):(gA rec can fs b d x).2.aG≠[]:=by
 unfold gA at h⊢;split
 ·rename_i q;rw[Yd q]at h;exact a h
 rename_i q;rw[Yb q]at h;split
 ·rename_i q;rw[Yd q]at h;have c:d=true:=h;simp only[c,Z8];unfold lY;split
  ·exact a c
  intro e;have:=Yg List.length e;simp only[Y7,Yr]at this;exact a c (Y4.1 this)
 rename_i q;rw[Yb q]at h;split
 ·rename_i q;rw[Yd q]at h;cases h
 rename_i q;rw[Yb q]at h;split
 ·rename_i q;rw[Yd q]at h;cases h
 rename_i q;rw[Yb q]at h;split
 ·rename_i q;rw[Yd q]at h;cases h
 rename_i q;rw[Yb q]at h;split
 ·rename_i q;rw[Yd q]at h;exact Iy (q9 ((Zn _ _▸h:_/\_).1))
 rename_i q;rw[Yb q]at h;exact a h
section
variable {os:f'}{rest:Nat}{op:Bool}
def pg.cY(h:pg L0 W bb vf v fs os xs T rest rec can fin i op m b wr)(x:qF T rec)(u:∀t n,Pl.look fs t=some n->n.aU.length<=T)(c:i<xs.length)(p:xs[i].2.length<=T/\xs[i].1<=T+1)(r:b.cH=0)(s:cV L0 w bb vf fs a)(g:gA rec can fs b op xs[i]=(d,f))(q:km a f)(j:ej wr w bb m.os a.os):pg L0 W bb vf v fs os xs T rest rec can fin (i+1) d a f w:=by
 have y:(gA rec can fs b op xs[i]).1=d:=by rw[g]
 have o:(gA rec can fs b op xs[i]).2=f:=by rw[g]
 refine⟨s,q,h.f.trans j,h.w.cY h.wz j,h.wz.cY j,?_,?_,λe=>?_⟩
 ·have l:=h.bd;rw[Yu c,uf]at l;rw[<-o];exact iB.step (add:=xs[i].2.length+1) (by have:=l;rwa [af0 (xs[i].2.length+1),<-ml]at this) λk c=>J9 x u c _ p.1 p.2
 ·have:=h.go;rw[Yu c,jT,Yb (λe=>e r),g]at this;exact this
 rw[<-o];exact RP h.ne (by rw[y];exact e)
def pg.aD(h:pg L0 W bb vf v fs os xs T rest rec can fin i op m b wr)(a:μ wr w):pg L0 W bb vf v fs os xs T rest rec can fin i op m b w:=⟨(h.mm.aD a).1,h.ii,h.f.trans (h.mm.aD a).2,h.w.cY h.wz (h.mm.aD a).2,h.wz.cY (h.mm.aD a).2,h.bd,h.go,h.ne⟩
def pg.cL(h:pg L0 W bb vf v fs os xs T rest rec can fin i op m b wr)(d:¬i<xs.length\/b.cH≠0):oG L0 bb vf fs os fin W (.returned (.tuple #[])) wr:=by
 have e:fin=b:=by
  have a:=h.go;by_cases c:i<xs.length
  ·rw[Yu c,jT,Yd (d.resolve_left (λq=>q c))]at a;exact a.symm
  rw[Zz (by omega)]at a;exact a.symm
 rw[e];exact⟨⟨_,rfl⟩,m,h.mm,h.ii,h.f⟩
end
