/- . -/
import Derived.Test.YtjelacjggijmfaaGreatDoorYEA1
import Derived.Test.YtjelacjggijmfaaGreatDoorYGF2
set_option maxHeartbeats 8000000
set_option maxRecDepth 20000
namespace Go.Proofs.YtjelacjggijmfaaGreatDoor
open Pl Mk Cp Proofs.Tryz
open RowKit
theorem jF.fO {m:Bm}{b:Bk}(k:jF m b)(c:b.aD≠[]):∃ys z rs j,m.xs=ys++[z]/\b.aD=rs++[j]/\ys.map Rm.key=rs.map Ru.key/\Rm.key z=Ru.key j/\rs.length=ys.length:=by have d:=k.len;have l:m.xs≠[]:=λe=>c (by rw[e] at d;exact UH.1 d.symm);have h:=(Wg l).symm;have i:=(Wg c).symm;have f:=k.rs;rw[h,i,T',T'] at f;have a:=List.append_inj' f rfl;exact⟨_,_,_,_,h,i,a.1,by simpa using a.2,by have:=TU List.length a.1;simpa using this.symm⟩
theorem Bm.QK (m:Bm)(ys:List Rm)(z:Rm):({m with xs:=ys++[z]}:Bm).os=[m.vN,m.vR,z.vs,z.vl]:=by unfold Bm.os;rw[Bm.og rfl]
theorem sx {W:ax}{bb g n cap:Nat}{ys:List Rm}{z:Rm}(c:W.ownsRow (bb+1) 147 6 (.slice (some ⟨g,0,none⟩) n cap) n ((ys++[z]).flatMap lh)):∀a u,(lh z)[a]?=some u->W.cell? ⟨g,ys.length*6+a,none⟩=some u:=λa u b=>by have d:a<6:=(TZ.1 b).1;refine gx c _ u ?_;rw[pk (f:=lh) (λ_=>rfl) (ys++[z]) ys.length a (by simp) d];simp only[ZM];exact b
theorem FC {W X:ax}{lb c:Nat}{vs:List ay}{b:Option Nat}{a:Addr}{u:ay}(h:aG W lb c vs)(d:W.grownBy X b)(f:some lb≠b)(e:lb≠a.block):aG (X.setCell a u) lb c vs:=(T5 _ _ _ _ e).trans ((d.block lb h.lt f).trans h)
section
variable {L0 W X:ax} {bb lb g cap:Nat} {vf v:ay} {fs:List aI} {m:Bm} {ys:List Rm} {z:Rm} {o:Obj} {vs:List ay}
theorem cG.R9 (h:cG L0 W bb vf fs m)(l:m.xs=ys++[z])(i:m.vR= .slice (some ⟨g,0,none⟩) m.xs.length cap)(c:ag)(x:(W.alloc o).drew.grownBy X z.vs.ownBlock)(y:X.ownsRow (bb+1) 9 1 v (z.ss.length+1) (z.ss.map aK++[aK c]))(D:v.ownBlock=z.vs.ownBlock\/v.ownBlock=some (W.alloc o).heap.size)(n:aG W lb 218 vs)(t:∀v∈m.os,∀q,v.ownBlock=some q->q<lb):
 cG L0 (X.setCell ⟨g,ys.length*6+2,none⟩ v) bb vf fs {m with xs:=ys++[{z with ss:=z.ss++[c],vs:=v}]}/\dN W (X.setCell ⟨g,ys.length*6+2,none⟩ v) bb m.os [m.vN,m.vR,v,z.vl]/\X.cell? ⟨bb,2,none⟩=some m.vR/\X.cell? ⟨g,ys.length*6+2,none⟩=some z.vs/\X.frozen? ⟨g,ys.length*6+2,none⟩=false/\aG X lb 218 vs/\aG (X.setCell ⟨g,ys.length*6+2,none⟩ v) lb 218 vs:=by
 have s:=Bm.og l;have d:=oU x;have u:=h.lI;have a:=h.lS;rw[s] at u a;obtain⟨B,w,A,C⟩:=h.tu (z' :={z with ss:=z.ss++[c],vs:=v}) (j:=2) (v:=v) l i rfl ⟨rfl,rfl,rfl,rfl⟩ d (.inl rfl) (by simpa using y) (bT a λk p=>d.block k (T3 a k p).2 (cG.ap a u (by decide) k p)) (λq b=>by
  rcases D with e|e
  ·exact .inr (e▸b)
  ·rw[show v.ownBlock=some q from b] at e;cases e;exact .inl (by simp)) (λq b=> .inr b)
 have f:=C;rw[i,l] at f;have E:g<lb:=t m.vR (by simp[Bm.os]) g (by rw[i];rfl);have r:some lb≠z.vs.ownBlock:=λe=>by have:=t m.du.vs (by simp[Bm.os]) lb (by rw[s];exact e.symm);omega
 exact⟨B,w,A.cell 2 (by simp),sx f 2 _ rfl,ua f _,(d.block lb n.lt r).trans n,FC n d r (show lb≠g by omega)⟩
theorem cG.Sy (h:cG L0 W bb vf fs m)(i:m.xs=ys++[z])(r:m.vR= .slice (some ⟨g,0,none⟩) m.xs.length cap)(c:Nat)(u:(W.alloc o).drew.grownBy X z.vl.ownBlock)(w:X.ownsRow (bb+1) 3 1 v (z.ls.length+1) (z.ls.map dg++[dg c]))(C:v.ownBlock=z.vl.ownBlock\/v.ownBlock=some (W.alloc o).heap.size)(l:aG W lb 218 vs)(s:some lb≠z.vl.ownBlock)(D:lb≠g):
 cG L0 (X.setCell ⟨g,ys.length*6+3,none⟩ v) bb vf fs {m with xs:=ys++[{z with ls:=z.ls++[c],vl:=v}]}/\dN W (X.setCell ⟨g,ys.length*6+3,none⟩ v) bb m.os [m.vN,m.vR,z.vs,v]/\X.cell? ⟨bb,2,none⟩=some m.vR/\X.cell? ⟨g,ys.length*6+3,none⟩=some z.vl/\X.frozen? ⟨g,ys.length*6+3,none⟩=false/\aG X lb 218 vs/\aG (X.setCell ⟨g,ys.length*6+3,none⟩ v) lb 218 vs:=by
 have A:=Bm.og i;have d:=oU u;have b:=h.lI;have n:=h.lS;rw[A] at b n;obtain⟨y,t,x,B⟩:=h.tu (z' :={z with ls:=z.ls++[c],vl:=v}) (j:=3) (v:=v) i r rfl ⟨rfl,rfl,rfl,rfl⟩ d (.inr rfl) (bT b λk p=>d.block k (T3 b k p).2 (cG.ap b n (by decide) k p)) (by simpa using w) (λq a=> .inr a) (λq a=>by
  rcases C with e|e
  ·exact .inr (e▸a)
  ·rw[show v.ownBlock=some q from a] at e;cases e;exact .inl (by simp))
 have f:=B;rw[r,i] at f;exact⟨y,t,x.cell 2 (by simp),sx f 3 _ rfl,ua f _,(d.block lb l.lt s).trans l,FC l d s D⟩
end
theorem PI {L0 W:ax}{bb:Nat}{vf:ay}{fs:List aI}{m:Bm}{b:Bk}(h:cG L0 W bb vf fs m)(p:jF m b)(h0:b.cy=0)(hS:mi b)(aU:b.aD≠[])(n:Nat)(kd:Int)(L:az)(c:ag):
 Calls prog 105 #[.pointer (some ⟨bb,0,none⟩),pO n kd L ⟨c.toArray⟩] W λx W'=>mW L0 bb vf fs m.os (kH b c n) W x W' :=by
 obtain⟨ys,z,rs,K,T,V,bk,ah,bo⟩:=p.fO aU;have aN:kb b=K:=by unfold kb;rw[V];simp
 have am:b.aD.length-1=ys.length:=by rw[V];simp;omega
 have au:=hS.aD K (by rw[V];simp);have ap:=ah;unfold Rm.key Ru.key at ap;simp only[Y2] at ap;obtain⟨q1,q2,q3,q4,q5,q6⟩:=ap;have ac:z.ss.length=K.cs.length:=by rw[q3,TR]
 have aY:z.ls.length=z.ss.length:=by rw[q4,TR,ac]
 have HT:Hid (oq b=(decide (z.ss.length=0)&&(!z.b_&&z.tg.any λC=>(fD b.aD C (ys.length:Int)).isSome))):=aB (by unfold oq;rw[aN,am,ac,q5,q1]);have be:Hid (oq b=true->kH b c n=b.dk 6 n):=aB λe=>by unfold kH;rw[TP e]
 have bv:Hid (oq b=false->kH b c n={b with aD:=rs++[{K with cs:=K.cs++[(c,n)]}]}):=aB λe=>by unfold kH;rw[e,TJ (by decide),aN,am,V,Vg _ _ (by omega),bo,XT];rfl
 have bV:ys.length<=64:=by have:=hS.gG;omega
 have bX:z.ss.length<=110000000:=by rw[ac];exact au.cs
 have bT:z.tg.length<=2000:=by rw[q1];exact au.tg
 have HI:=aB p;have HS:=aB hS;have HK:Hid (ys.map Rm.key=rs.map Ru.key/\Rm.key z=Ru.key K/\b.aD=rs++[K]/\z.ls.length=z.ss.length):=aB ⟨bk,ah,V,aY⟩;obtain⟨i0,bg,a0,s,bq⟩:=UF Tryz.kJ;obtain⟨i1,bn,bm,bi,a_⟩:=UF Tryz.w_;have br:=aB bg;have bH:=aB a0;have bD:=aB s;have bz:=aB bq;have bB:=aB bn;have bJ:=aB bm;have bF:=aB bi;have bL:=aB a_;clear bg a0 s bq bn bm bi a_;have a5:Below W.heap.size W (W.alloc (.cells #[.int .i64 (n:Int),.int .u8 kd,.string L,.string ⟨c.toArray⟩] 218)):=aj W _;obtain⟨d,aV⟩:=h.aE a5;have HB:=aB (aG.bA W 218 [.int .i64 (n:Int),.int .u8 kd,.string L,.string ⟨c.toArray⟩]);have bY:bb<W.heap.size:=h.row.lt;have ar:Hid (∀v∈m.os,∀q,v.ownBlock=some q->q<W.heap.size):=aB λv Z q B=>(h.bI v Z q B).2;clear bk ah V aN am au q1 q2 q3 q4 q5 q6 bo p hS aU h a5 aY ac;unfold pO;go_enter func105,ntmps105;go_upto_region 1 with fail
 generalize bC:W.alloc (.cells #[.int .i64 (n:Int),.int .u8 kd,.string L,.string ⟨c.toArray⟩] 218)=wA at*;generalize bw:W.heap.size=lb at*;clear bC bw;have al:=aB aV;have bl:m.xs.length=ys.length+1:=by rw[T];simp
 obtain⟨g,cap,Z,bQ,bW⟩:=d_ d.f_ (by omega);obtain⟨-,-,c2,-,c4,-⟩:=d.cells;rw[Z,bl] at c2;have hz:=d.pP z (by rw[T];simp);obtain⟨a1,k1,e1⟩:=hz.t.iN;obtain⟨a2,k2,e2⟩:=hz.n.iN;have ao:m.du=z:=Bm.og T;have aJ:=d.lI;have aw:=d.lS;rw[ao] at aJ aw;obtain⟨a3,k3,O⟩:=dX aJ;obtain⟨a4,k4,e4⟩:=dX aw;have j:=d.f_;rw[Z,T] at j;have M:=sx j;have d0:=M 0 _ rfl;have d1:=M 1 _ rfl;have d2:=M 2 _ rfl;have d3:=M 3 _ rfl;have d4:=M 4 _ rfl;have d5:=M 5 _ rfl;rw[e1,Ve] at d0;rw[e2] at d1;rw[O] at d2;rw[e4,HK.u.2.2.2] at d3;have HO:Hid (∀w,Below wA.heap.size wA w->∀C:ag,Calls prog 109 #[.pointer (some ⟨bb,0,none⟩),.string ⟨C.toArray⟩,.int .i64 (ys.length:Int)] w λe w'=>e= .returned (gI (fD b.aD C (ys.length:Int)))/\Below w.heap.size w w'):=aB λw hb C=>DY ((d.tA HI.u).aE hb) HS.u C _;have H1:=aB d;have R:=aB T;have E:=aB Z;have aW:=aB ao;have HE:Hid (z.vs= .slice a3 z.ss.length k3/\z.vl= .slice a4 z.ls.length k4):=aB ⟨O,e4⟩;have aH:=aB hz.t;rw[e1] at aH;have bU:(ys.length:Int)<((ys.length:Int)+1):=by omega
 clear aJ aw hz M j d T Z ao e1 e2 O e4 aV bl;go_wp2_with fail
 have aZ:Below wA.heap.size wA (wA.alloc (.cells #[.slice a1 z.tg.length k1,.slice a2 z.nd.length k2,.slice a3 z.ss.length k3,.slice a4 z.ss.length k4,.bool z.b_,.bool z.ph] 147)):=aj wA _;have ae:=aG.bA wA 147 [.slice a1 z.tg.length k1,.slice a2 z.nd.length k2,.slice a3 z.ss.length k3,.slice a4 z.ss.length k4,.bool z.b_,.bool z.ph];generalize bt:wA.alloc (.cells #[.slice a1 z.tg.length k1,.slice a2 z.nd.length k2,.slice a3 z.ss.length k3,.slice a4 z.ss.length k4,.bool z.b_,.bool z.ph] 147)=wB at*;have U:=aB aZ;have aO:=aB ae;have bx:=ae.lt;generalize bc:wA.heap.size=rb at ae aO bx;have bS:=aB bc;clear bt aZ ae bc d0 d1 d2 d3 d4 d5 c2 c4;go_loopw [6] (λiv wr=>∃a:Nat,iv= .int .i64 a/\a<=z.tg.length/\Hid (∀i (S:i<z.tg.length),i<a->fD b.aD z.tg[i] (ys.length:Int)=none)/\Hid (Below wB.heap.size wB wr)) (λiv _=>z.tg.length-aS iv)
 case atStart=>exact⟨0,rfl,TS _,aB λi S p=>(by omega),aB (TF _ _)⟩
 case round=>
  obtain⟨a,rfl,p,HN,J⟩:=hrel;have ad:=aO.u.aE J.u;have b0:=ad.cell 0 (by simp);have b2:=ad.cell 2 (by simp);have b4:=ad.cell 4 (by simp);simp only[TG,TI] at b0 b2 b4;clear ad;go_upto_region 4 with fail
  go_cut [36] from 36 to 36 (λcv wx=>cv= .bool (decide (a<z.tg.length)&&(decide (z.ss.length=0)&& !z.b_))/\wx=wr)
  case first=>
   by_cases d:a<z.tg.length
   ·have t1:(a:Int)<(z.tg.length:Int):=by omega
    by_cases A:z.ss.length=0
    ·rw[A] at b2;obtain⟨pt,aT⟩:∃pt,pt=z.b_:=⟨_,rfl⟩;rw[<-aT] at b4;have bf:=aB aT;clear aT;cases pt with
     |true=>
      go_wp2_with fail
      go_meet
      case rel=>exact⟨by rw[<-bf.u];simp[d,A],rfl⟩
     |false=>
      go_wp2_with fail
      go_meet
      case rel=>exact⟨by rw[<-bf.u];simp[d,A],rfl⟩
    ·have t2:((z.ss.length:Int)==0)=false:=by rw[TQ];omega
     go_wp2_with fail
     go_meet
     case rel=>exact⟨by simp[A],rfl⟩
   ·have t1:¬(a:Int)<(z.tg.length:Int):=by omega
    go_wp2_with fail
    go_meet
    case rel=>exact⟨by simp[d],rfl⟩
  case rest=>
   obtain⟨rfl,rfl⟩:=hcut;cases B:(decide (a<z.tg.length)&&(decide (z.ss.length=0)&& !z.b_)) with
   |true=>
    have d:a<z.tg.length:=by rw[U0] at B;exact Xe B.1
    have t1:(a:Int)<(z.tg.length:Int):=by omega
    have HQ:Hid _:=aB B;obtain⟨a9,k9,b9,o9,bE,bd,a'⟩:=aH.u.aE (U.u.tr J.u);cases bE;obtain⟨rfl,-⟩:=bd (by omega);have e9:=a' a d;unfold aK at e9;have H:=aB (HO.u _ (U.u.tr J.u) z.tg[a]);clear bd a';generalize hy:z.tg[a]=y at*;have HY:=aB hy;clear hy B;cases ho:fD b.aD y (ys.length:Int) with
    |none=>
     rw[ho] at H;unfold gI im at H;have bh:Hid (∀i (S:i<z.tg.length),i<a+1->fD b.aD z.tg[i] (ys.length:Int)=none):=aB λi S A=>by
      by_cases e:i=a
      ·subst e;rw[HY.u];exact ho
      ·exact HN.u i S (by omega)
     go_wp2_with (first|(go_at_call 109;refine H.u.mono ?_;rintro e w3 ⟨rfl,aa⟩;have bp:=aB (J.u.tr aa);clear aa)|fail)
     first
      |exact⟨⟨a+1,by go_num,by omega,bh,bp⟩,by simp only[aS];omega⟩
      |(go_roundw;exact⟨a+1,by go_num,by omega,bh,bp⟩;simp only[aS];omega)
    |some k=>
     rw[ho] at H;unfold gI im at H;have bO:Hid (kH b c n=b.dk 6 n):=aB (be.u (by have A:=HQ.u;rw[U0] at A;rw[HT.u,<-Bool.and_assoc,U0];exact⟨A.2,VD.2 ⟨y,by rw[<-HY.u];exact TV d,by rw[ho];rfl⟩⟩));go_wp2_with (first|(go_at_call 109;refine H.u.mono ?_;rintro e w3 ⟨rfl,aa⟩;have aQ:=U.u.trans ((J.u.tr aa).mono U.u.size);obtain⟨r,f3⟩:=H1.u.aE aQ;have av:=aB r;have aF:=aB (al.u.trans f3);have l0:=(HB.u.aE aQ).cell 0 (by simp);simp only[TG] at l0;clear aa r f3 aQ)|(go_at_call 106;refine(mC av.u HI.u h0 6 n).mono ?_;rintro e w4 hp;have HP:=aB (hp.bj aF.u);clear hp;obtain⟨⟨ev,rfl⟩,-⟩:=HP.u;skip)|fail)
     refine Ua (U' rfl _ _ _) rfl ?_;rw[bO.u];exact⟨⟨_,rfl⟩,HP.u.2⟩
   |false=>
    have bN:Hid (oq b=false):=aB (by
     rw[HT.u,<-Bool.and_assoc];by_cases d:a<z.tg.length
     ·rw[Uz d,Vz] at B;rw[B,We]
     ·have A:(z.tg.any λC=>(fD b.aD C (ys.length:Int)).isSome)=false:=by
       rw[VG];intro C ht;obtain⟨i,S,rfl⟩:=U8 ht;rw[HN.u i S (by omega)];decide
      rw[A,ZG])
    have aA:=U.u.tr J.u;obtain⟨r,f3⟩:=H1.u.aE aA;have aF:=aB (al.u.trans f3);have ai:=aB (HB.u.aE aA);have b5:=r.row.lt;have b7:=ai.u.lt;have av:=aB r;have bR:g<wc.heap.size:=(T3 r.f_ g (by rw[E.u];rfl)).2;have b3:lb≠bb:=by omega
    have j:=r.f_;rw[E.u,R.u] at j;have d2:=sx j 2 _ rfl;rw[HE.u.1] at d2;obtain⟨-,-,c2,-,-,-⟩:=r.cells;rw[E.u,R.u,TE,T6] at c2;have l3:=ai.u.cell 3 (by simp);simp only[TG,TI] at l3;have a7:=aB r.lI;rw[aW.u,HE.u.1] at a7;clear aA r f3 HN HO aO U J H1 al aH b0 b2 b4 B HB be HT j;go_upto_region 9 with fail
    go_cut [] from 53 (λwx=>∃v1,Hid (cG L0 wx bb vf fs {m with xs:=ys++[{z with ss:=z.ss++[c],vs:=v1}]})/\Hid (dN W wx bb m.os [m.vN,m.vR,v1,z.vl])/\Hid (aG wx lb 218 [.int .i64 (n:Int),.int .u8 kd,.string L,.string ⟨c.toArray⟩]))
    case first=>
     go_region_law (refine qM rfl (.tmp 65) (.tmp 68) 30 rfl (bb+1) 9 i0 _ 1 16 UC br.u bH.u bD.u bz.u rfl (by decide) _ z.ss.length _ (by simp[Act.eval]) (a7.u.alloc _) ⟨_,0,none⟩ 1 1 [aK c] (by simp[Act.eval]) rfl (gw _ _ [aK c]) (by intro u hu;simp at hu;subst hu;rfl) (by unfold maxLen;omega) (by omega) (by simp;omega) ?_;intro v1 w2 G N I;rw[<-HE.u.1] at N I;obtain⟨g1,an,rfl,-,-⟩:=d_ G (by omega);obtain⟨Q,r2,r3,r4,r5,r6,Y⟩:=av.u.R9 R.u E.u c N G I ai.u ar.u;rw[E.u,R.u,TE,T6] at r3;rw[HE.u.1] at r4;have O:=r6.cell 3 (by simp);simp only[TG,TI] at O;obtain⟨-,-,r8,-,-,-⟩:=Q.cells;rw[show ({m with xs:=ys++[{z with ss:=z.ss++[c],vs:= .slice (some ⟨g1,0,none⟩) (z.ss.length+1) an}]}:Bm).vR=m.vR from rfl,E.u,R.u,TE,T6] at r8;have e8:=Y.cell 3 (by simp);simp only[TG,TI] at e8;have aC:=aB Q;have aR:=aB (aF.u.trans r2);have bM:=aB Y;clear Q r2 r6 Y G N I)
     all_goals go_wp2_with fail
     all_goals go_meet
     all_goals exact⟨_,aC,aR,bM⟩
    case rest=>
     obtain⟨v1,F,a6,aq⟩:=hcut;obtain⟨f,s⟩:∃f:Rm,f={z with ss:=z.ss++[c],vs:=v1}:=⟨_,rfl⟩;rw[<-s] at F;obtain⟨l,D⟩:∃l:Bm,l={m with xs:=ys++[f]}:=⟨_,rfl⟩;rw[<-D] at F;have P:l.xs=ys++[f]:=by rw[D]
     have ab:l.vR= .slice (some ⟨g,0,none⟩) l.xs.length cap:=by rw[P,D];show m.vR=_;rw[E.u,R.u];simp
     have aL:l.os=[m.vN,m.vR,v1,z.vl]:=by unfold Bm.os;rw[Bm.og P,D,s]
     have a8:l.du=f:=Bm.og P;rw[<-aL] at a6;have j:=F.u.f_;rw[ab,P] at j;have d3:=sx j 3 _ rfl;have af:f.vl= .slice a4 z.ss.length k4:=by rw[s];show z.vl=_;rw[HE.u.2,HK.u.2.2.2]
     have aP:f.ls=z.ls:=by rw[s]
     rw[af] at d3;obtain⟨-,-,bu,-,-,-⟩:=F.u.cells;rw[ab,P,TE,T6] at bu;have l0:=aq.u.cell 0 (by simp);simp only[TG] at l0;have aX:=aB F.u.lS;rw[a8,af,aP,HK.u.2.2.2] at aX;have bZ :g<wc.heap.size:=(T3 F.u.f_ g (by rw[ab];rfl)).2;have b6 :=F.u.row.lt;have b1 :=aq.u.lt;have ak:=aB P;have aM:=aB ab;have H:=aB aL;have ba:=aB af;have bP:=aB aP;have bG:Hid (some lb≠f.vl.ownBlock):=aB λe=>by have:=ar.u m.du.vl (by simp[Bm.os]) lb (by rw[aW.u];rw[s] at e;exact e.symm);omega
     have bK:lb≠g:=λe=>by have:=ar.u m.vR (by simp[Bm.os]) g (by rw[E.u];rfl);omega
     have bs:Hid (∀v2:ay,jF {l with xs:=ys++[{f with ls:=f.ls++[n],vl:=v2}]} (kH b c n)):=aB λv2=>by rw[bv.u bN.u];obtain⟨q1,q2,q3,-⟩:=HK.u;have p:=HI.u;refine⟨by rw[D];exact p.cK,by rw[D];exact p.tk,by rw[D];exact p.er,by rw[D];exact p.ln,?_⟩;show(ys++[_]).map Rm.key=(rs++[_]).map Ru.key;rw[T',T',q1];congr 1;unfold Rm.key Ru.key at q2;simp only[Y2] at q2;obtain⟨p1,p2,p3,p4,p5,p6⟩:=q2;rw[s];simp[Rm.key,Ru.key,p1,p2,p3,p4,p5,p6]
     clear P ab aL a8 j af aP D s c2 l3 d2;go_wp2_with fail
     go_region_law (refine qM rfl (.tmp 84) (.tmp 87) 41 rfl (bb+1) 3 i1 _ 1 8 Wb bB.u bJ.u bF.u bL.u rfl (by decide) _ z.ss.length _ (by simp[Act.eval]) (aX.u.alloc _) ⟨_,0,none⟩ 1 1 [dg n] (by simp[Act.eval]) rfl (gw _ _ [dg n]) (by intro u hu;simp at hu;subst hu;rfl) (by unfold maxLen;omega) (by omega) (by simp;omega) ?_;intro v2 w2 G N I;rw[<-ba.u] at N I;rw[<-HK.u.2.2.2,<-bP.u] at G;obtain⟨g1,an,rfl,-,-⟩:=d_ G (by omega);obtain⟨Q,r2,r3,r4,r5,r6,Y⟩:=F.u.Sy ak.u aM.u n N G I aq.u bG.u bK;rw[aM.u,ak.u,TE,T6] at r3;rw[ba.u] at r4;have O:=r6.cell 0 (by simp);simp only[TG] at O;obtain⟨-,-,r8,-,-,-⟩:=Q.cells;rw[show ({l with xs:=ys++[{f with ls:=f.ls++[n],vl:= .slice (some ⟨g1,0,none⟩) (f.ls.length+1) an}]}:Bm).vR=l.vR from rfl,aM.u,ak.u,TE,T6] at r8;have e8:=Y.cell 0 (by simp);simp only[TG] at e8;have aC:=aB Q;have aR:=aB (a6.u.trans r2);clear Q r2 r6 Y G N I)
     all_goals go_wp2_with fail
     all_goals refine Ua (U' rfl _ _ _) rfl ?_
     all_goals exact⟨⟨_,rfl⟩,_,aC.u,bs.u _,by rw[Bm.QK];exact aR.u⟩
