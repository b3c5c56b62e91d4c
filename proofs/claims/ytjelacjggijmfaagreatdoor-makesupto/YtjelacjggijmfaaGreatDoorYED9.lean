/- . -/
import Derived.Test.YtjelacjggijmfaaGreatDoorYED5
set_option linter.all false
set_option maxHeartbeats 16000000
set_option maxRecDepth 20000
namespace Go.Proofs.YtjelacjggijmfaaGreatDoor
open Pl Mk Cp Proofs.Tryz
open RowKit
def P9(c:zj)(a:aj)(d:a.length<=1048576)(w:ay):Calls prog 104 #[σ a] w λe b=>∃v,e=.returned v/\jl b w.heap.size v (dF a)/\μ w b:=by have:=MW c ⟨a.toArray⟩ w (by rw[ea];omega);exact this
def I2(a8:zj){L0:ay}{bb:Nat}{vf:az}{n:fy}{G:Nat}{rec:Bk->aj->Bk}{can:Bool}(hT:G<=1048576)(a4:qF G rec)(hf:∀bl aS,Pl.look n bl=some aS->aS.aU.length<=G)(bn:n.length<=16777216)(dp:Nat)(bg:can=decide (dp<3))(hC:can=true->zD L0 bb vf n G ((dp:Int)+1) rec):zD L0 bb vf n G (dp:Int) (λb s=>jT rec can n (dF s) b false):=by
 intro W m b s ah h hi _ hs a6;show Calls _ _ _ _ λx W'=>oG L0 bb vf n m.os (jT rec can n (dF s) b false) W x W';have CL:=aC (P9 a8 s (by omega) W);have HX:Hid (∀d (Y:d<(dF s).length),((dF s)[d]).2.length<=G/\((dF s)[d]).1<=G+1):=aC λd Y=>⟨Ye (wG (Ym Y)) hs,Ye (Ar (Ym Y)) (by omega)⟩;have X:=aC (iB.zo (add:=ah+mJ (dF s)) a6 (by have:=ua s;omega));have bv:(dF s).length<=1048577:=by
  have h1:=ua s;have h2:∀J:List (Nat×aj),J.length<=mJ J:=λJ=>by
   induction J with
   |nil=>exact Yh _
   |cons a bq ih=>rw[uf,Ya];omega
  have:=h2 (dF s);omega
 have H:=aC h;have HI:=aC hi;have be:=aC a4;have a5:=aC hf;have HC:=aC hC;generalize dF s=p at*;clear h hi a4 hf hC a6 a8;generalize ba:jT rec can n p b false=fin;have a':=aC ba;clear ba;go_enter func69,ntmps69;go_wp2_with (go_at_call 104;refine CL.u.mono ?_;rintro e S⟨v,rfl,hO,ab⟩;have HO:=aC hO;have am:=aC ab;clear hO ab CL;obtain⟨av,kv,gv,rfl,-,-⟩:=HO.u.vB)
 have bm:Hid (pg L0 W bb vf (.slice av p.length kv) n m.os p G ah rec can fin 0 false m b S):=aC (by obtain⟨c,bC,bo⟩:=HO.u;exact⟨(H.u.aD am.u).1,HI.u,(H.u.aD am.u).2,HO.u.vB,H.u.nE bo,X.u,a'.u,λe=>(by cases e)⟩);clear HO am H HI X a';go_loopw [7,8] (λov iv wr=>∃(d:Nat) (op:Bool) (C:Bm) (i:Bk),ov=.bool op/\iv=ι d/\d<=p.length/\Hid (pg L0 W bb vf (.slice av p.length kv) n m.os p G ah rec can fin d op C i wr)) (λ_ iv _=>p.length-aV iv)
 case atStart=>exact⟨0,false,m,b,rfl,rfl,Yh _,bm⟩
 obtain⟨d,op,C,i,rfl,rfl,hi,A⟩:=hrel;obtain⟨-,c1,c2,-,c4,-⟩:=A.u.mm.cells;have bx:=A.u.mm.row.lt;rw[A.u.ii.er]at c4;by_cases Y:d<p.length
 ·have ti:(d:Int)<p.length:=by omega
  by_cases N:i.cH=0
  ·rw[N]at c4;have hx:=HX.u d Y;obtain⟨p1,p2,-⟩:=wM p[d].2;obtain⟨a9,k9,g9,bk,a0,bf⟩:=A.u.w;cases bk;obtain rfl:=a0 (by omega);obtain⟨LB,RB,e0,d0,d1,d2,d3⟩:=bf d p[d] (X9 Y);have aT:=aC (A.u.bd.size hT);have P:Hid (∀aR aw,gA rec can n i op p[d]=(aR,aw)->∀(K:ay) (m2:Bm),cV L0 K bb vf n m2->km m2 aw ->ej wr K bb C.os m2.os->pg L0 W bb vf (ξ g9 p.length kv) n m.os p G ah rec can fin (d+1) aR m2 aw K):=aC λaR aw hl K m2 l j g=>A.u.cY be.u a5.u Y hx N l hl j g;have y:=aC A.u.mm;have D:=aC A.u.ii;have bs:=aC A.u.ne;have X:=aC A.u.bd;have ae:Hid (∀(w:ay) (a1:f'),ej wr w bb C.os a1 ->∀aH,w.χ g9 aH=wr.χ g9 aH):=aC λw a1 hf aH=>by obtain⟨z1,z2,z3⟩:=A.u.wz g9 rfl;exact tq (a:=η g9 aH) (hf.jX g9 z1 z2 z3)
   generalize p[d]=x at*;clear a0 bf;by_cases M:rk (bD x.2)=0
   ·rw[M]at d1;have f:=aC (P.u op i (by unfold gA;rw[Yd M]) wr C y.u D.u (ej.refl _ _ _));go_wp2_with fail
    first
     |exact⟨⟨d+1,_,_,_,by first|rfl|simp,by go_num,by omega,f⟩,by simp only[aV];omega⟩
     |(go_roundw;exact⟨d+1,_,_,_,by first|rfl|simp,by go_num,by omega,f⟩;simp only[aV];omega)
   by_cases Q:rk (bD x.2)=99
   ·rw[Q]at d1;obtain⟨rfl,rfl⟩:=e0 (by rw[Q];decide);cases op with
    |true=>
     have r:=aC (TR y.u D.u N aT.u (bs.u rfl) x.1 99 ⟨(bD x.2).1.left.toArray⟩ (bD x.2).1.right);unfold qX at r;have q:Hid (gA rec can n i true x=(true,lY i (bD x.2).1.right x.1)):=aC (by unfold gA;rw[Yb M,Yd Q,Yd rfl]);generalize (bD x.2).1.right=R at*;generalize (bD x.2).1.left=L at*;go_wp2_with (go_at_call 105;refine r.u.mono ?_;rintro e w9⟨⟨ev,rfl⟩,m9,l,j,g⟩;have f:=aC (P.u _ _ q.u _ _ l j g);clear l j g)
     first
      |exact⟨⟨d+1,_,_,_,by first|rfl|simp,by go_num,by omega,f⟩,by simp only[aV];omega⟩
      |(go_roundw;exact⟨d+1,_,_,_,by first|rfl|simp,by go_num,by omega,f⟩;simp only[aV];omega)
    |false=>
     have r:=aC (nX y.u D.u N 1 x.1);have q:Hid (gA rec can n i false x=(false,i.dH 1 x.1)):=aC (by unfold gA;rw[Yb M,Yd Q,Yb (by decide)]);go_wp2_with (go_at_call 106;refine r.u.mono ?_;rintro e w9⟨⟨ev,rfl⟩,m9,l,j,g⟩;have f:=aC (P.u _ _ q.u _ _ l j g);clear l j g)
     first
      |exact⟨⟨d+1,_,_,_,by first|rfl|simp,by go_num,by omega,f⟩,by simp only[aV];omega⟩
      |(go_roundw;exact⟨d+1,_,_,_,by first|rfl|simp,by go_num,by omega,f⟩;simp only[aV];omega)
   by_cases ac:rk (bD x.2)=105
   ·rw[ac]at d1;obtain⟨rfl,rfl⟩:=e0 (by rw[ac];decide);have r:=aC (N1 y.u D.u N hT X.u be.u a5.u bn dp bg HC.u x.1 hx.2 105 ⟨(bD x.2).1.left.toArray⟩ (bD x.2).1.right (by omega));unfold qX at r;have q:Hid (gA rec can n i op x=(false,nr rec can n i (bD x.2).1.right x.1)):=aC (by unfold gA;rw[Yb M,Yb Q,Yd ac]);clear bg;generalize (bD x.2).1.right=R at*;generalize (bD x.2).1.left=L at*;go_wp2_with (go_at_call 107;refine r.u.mono ?_;rintro e w9⟨⟨ev,rfl⟩,m9,l,j,g⟩;have f:=aC (P.u _ _ q.u _ _ l j g);clear l j g)
    first
     |exact⟨⟨d+1,_,_,_,by first|rfl|simp,by go_num,by omega,f⟩,by simp only[aV];omega⟩
     |(go_roundw;exact⟨d+1,_,_,_,by first|rfl|simp,by go_num,by omega,f⟩;simp only[aV];omega)
   by_cases af:rk (bD x.2)=108
   ·rw[af]at d1;obtain⟨rfl,rfl⟩:=e0 (by rw[af];decide);have q:Hid (gA rec can n i op x=(false,{i with aX:=i.aX++[⟨(bD x.2).1.left,(bD x.2).1.right,false⟩]})):=aC (by unfold gA;rw[Yb M,Yb Q,Yb ac,Yd af]);have bh:C.cZ.length<=105906277:=by rw[D.u.cZ];exact X.u.aX hT
    obtain⟨aN,cN,O⟩:=dR y.u.cZ;rw[O]at c1;have U:=aC y.u.cZ;rw[O]at U;have T:=aC O;have F:=aC y.u;have o:=aC D.u;have ao:=aC (ej.refl wr bb C.os);obtain⟨i0,an,ai,ap,al⟩:=Y1 Tryz.G0;have aO:=aC an;have aP:=aC ai;have aQ:=aC ap;have aA:=aC al;clear an ai ap al;clear O;generalize (bD x.2).1.right=R at*;generalize (bD x.2).1.left=L at*;go_wp2_with fail
    go_region_law (refine sH rfl (.tmp 71) (.tmp 83) 108 rfl (bb+1) 223 i0 _ 3 40 aep aO.u aP.u aQ.u aA.u rfl (by decide) _ C.cZ.length _ (by simp[Act.eval]) (U.u.alloc _) (η _ 0) 1 1 (mU ⟨L,R,false⟩) (by simp[Act.eval]) rfl (gX _ _ (mU ⟨L,R,false⟩)) (by intro u hu;simp[mU]at hu;rcases hu with rfl|rfl|rfl<;>rfl) (by unfold maxLen;omega) (by omega) (by simp;omega) ?_;intro v1 w2 E Z V;obtain⟨g1,a7,rfl,-,-⟩:=dv E (by omega);obtain⟨l,j,g⟩:=F.u.name (x:=⟨L,R,false⟩) (by rw[T.u];exact pD Z) E (by rw[T.u];rcases V with e|e;exact .inl e;exact .inr ⟨_,e,by simp⟩);have I:=g.cell 1 (by simp);have t:=g.frozen 1;simp only[X6,X7]at I;have f:=aC (P.u _ _ q.u _ _ l ⟨Yg (λJ=>J++_) o.u.cZ,o.u.tk,o.u.er,o.u.ln,o.u.rs⟩ (ao.u.trans j));clear E Z V l j g)
    all_goals go_wp2_with fail
    all_goals first
     |exact⟨⟨d+1,_,_,_,by first|rfl|simp,by go_num,by omega,f⟩,by simp only[aV];omega⟩
     |(go_roundw;exact⟨d+1,_,_,_,by first|rfl|simp,by go_num,by omega,f⟩;simp only[aV];omega)
   by_cases ar:rk (bD x.2)=102
   ·rw[ar]at d1;obtain⟨rfl,rfl⟩:=e0 (by rw[ar];decide);have ag:Hid (gA rec can n i op x=(false,tC i (bD x.2).1.left (bD x.2).1.right x.1)):=aC (by unfold gA;rw[Yb M,Yb Q,Yb ac,Yb af,Yd ar]);unfold tC at ag;have bp:=oP (nR i.aX) (bD x.2).1.right;obtain⟨aN,cN,O⟩:=dR y.u.cZ;rw[O]at c1;have aI:=aC O;have aF:Hid (∀w,μ wr w->γ 72 #[.slice aN C.cZ.length cN,.string ⟨(bD x.2).1.right.toArray⟩,.agg #[.bool false,ε,ε,ε,ε]] w (lB (dy (nR i.aX) (bD x.2).1.right))):=aC λw hb=>by have h2:=y.u.tU.aD hb;rw[O,D.u.cZ]at h2;rw[D.u.cZ];exact xV h2 aT.u.aX _ (by omega)
    obtain⟨i0,an,ai,ap,al⟩:=Y1 Tryz.G0;have aO:=aC an;have aP:=aC ai;have aQ:=aC ap;have aA:=aC al;clear an ai ap al;clear O;generalize dy (nR i.aX) (bD x.2).1.right=x1 at*;generalize (bD x.2).1.right=R at*;generalize (bD x.2).1.left=L at*;by_cases I:x1.er=0
    ·rw[xi I]at aF;rw[Yb (λe=>e I)]at ag;have q:=aC ag.u;go_wp2_with fail
     go_region_held3 (λK=>K.χ bb 1=some (.slice aN C.cZ.length cN)/\K.χ g9 (d*4+3)=some (σ R)) (first|with_reducible exact⟨c1,d3⟩|with_reducible exact⟨aa,ak⟩|go_keep) (first|(go_at_call 72;refine κ (aF.u _ (X5 _ wr).drew) λS ab=>?_;have ad:=(X5 _ wr).drew.trans ab;obtain⟨m1,t⟩:=y.u.aD ad;have aa:=m1.cells.2.1;rw[aI.u]at aa;have a2:=(ae.u S _ t _).trans d0;have a_:=(ae.u S _ t _).trans d2;have ak:=(ae.u S _ t _).trans d3;have aY:=aC m1;have au:=aC t;have am:=aC ad;clear ab ad m1 t))
     have F:=aC aY.u;have o:=aC D.u;have ao:=aC au.u;have bh:C.cZ.length<=105906277:=by rw[o.u.cZ];exact X.u.aX hT
     have bu:=F.u.row.lt;have U:=aC F.u.cZ;rw[aI.u]at U;have T:=aC aI.u;have c9:=aa;clear c1 aa d3 ak;generalize x1.bK=tx at*;go_wp2_with fail
     go_region_law (refine sH rfl (.tmp 117) (.tmp 125) 108 rfl (bb+1) 223 i0 _ 3 40 aep aO.u aP.u aQ.u aA.u rfl (by decide) _ C.cZ.length _ (by simp[Act.eval]) (U.u.alloc _) (η _ 0) 1 1 (mU ⟨L,tx,true⟩) (by simp[Act.eval]) rfl (gX _ _ (mU ⟨L,tx,true⟩)) (by intro u hu;simp[mU]at hu;rcases hu with rfl|rfl|rfl<;>rfl) (by unfold maxLen;omega) (by omega) (by simp;omega) ?_;intro v1 w2 E Z V;obtain⟨g1,a7,rfl,-,-⟩:=dv E (by omega);obtain⟨l,j,g⟩:=F.u.name (x:=⟨L,tx,true⟩) (by rw[T.u];exact pD Z) E (by rw[T.u];rcases V with e|e;exact .inl e;exact .inr ⟨_,e,by simp⟩);have I:=g.cell 1 (by simp);have t:=g.frozen 1;simp only[X6,X7]at I;have f:=aC (P.u _ _ q.u _ _ l ⟨Yg (λJ=>J++_) o.u.cZ,o.u.tk,o.u.er,o.u.ln,o.u.rs⟩ (ao.u.trans j));clear E Z V l j g)
     all_goals go_wp2_with fail
     all_goals first
      |exact⟨⟨d+1,_,_,_,by first|rfl|simp,by go_num,by omega,f⟩,by simp only[aV];omega⟩
      |(go_roundw;exact⟨d+1,_,_,_,by first|rfl|simp,by go_num,by omega,f⟩;simp only[aV];omega)
    have bz:((x1.er:Int) !=0)=true:=by rw[ZI];omega
    rw[wR I]at aF;rw[Yd I]at ag;have q:=aC ag.u;go_wp2_with fail
    go_region_held3 (λK=>K.χ bb 1=some (.slice aN C.cZ.length cN)/\K.χ g9 (d*4+3)=some (σ R)) (first|with_reducible exact⟨c1,d3⟩|with_reducible exact⟨aa,ak⟩|go_keep) (first|(go_at_call 72;refine κ (aF.u _ (X5 _ wr).drew) λS ab=>?_;have ad:=(X5 _ wr).drew.trans ab;obtain⟨m1,t⟩:=y.u.aD ad;have aa:=m1.cells.2.1;rw[aI.u]at aa;have a2:=(ae.u S _ t _).trans d0;have a_:=(ae.u S _ t _).trans d2;have ak:=(ae.u S _ t _).trans d3;have aY:=aC m1;have au:=aC t;have am:=aC ad;clear ab ad m1 t))
    have r:=aC (nX aY.u D.u N x1.er x.1);go_upto_region 23 with(first|(go_at_call 106;refine r.u.mono ?_;rintro e w9⟨⟨ev,rfl⟩,m9,l,j,g⟩;have bA:=(ae.u w9 _ (au.u.trans g) _).trans d2;have F:=aC l;have o:=aC j;have ao:=aC (au.u.trans g);clear l j g))
    have br:Hid (iB G (i.dH x1.er x.1) (ah+mJ (p.drop d))):=aC (X.u.dH bp.2 hx.2);have bh:m9.cZ.length<=105906277:=by rw[o.u.cZ];exact br.u.aX hT
    obtain⟨aM,cM,aZ⟩:=dR F.u.cZ;obtain⟨-,c9,-,-,-,-⟩:=F.u.cells;rw[aZ]at c9;have bu:=F.u.row.lt;have U:=aC F.u.cZ;rw[aZ]at U;have T:=aC aZ;clear c1 aa d3 ak a2 a_ d2 d0 d1;go_region_law (refine sH rfl (.tmp 117) (.tmp 125) 108 rfl (bb+1) 223 i0 _ 3 40 aep aO.u aP.u aQ.u aA.u rfl (by decide) _ m9.cZ.length _ (by simp[Act.eval]) (U.u.alloc _) (η _ 0) 1 1 (mU ⟨L,[],true⟩) (by simp[Act.eval]) rfl (gX _ _ (mU ⟨L,[],true⟩)) (by intro u hu;simp[mU]at hu;rcases hu with rfl|rfl|rfl<;>rfl) (by unfold maxLen;omega) (by omega) (by simp;omega) ?_;intro v1 w2 E Z V;obtain⟨g1,a7,rfl,-,-⟩:=dv E (by omega);obtain⟨l,j,g⟩:=F.u.name (x:=⟨L,[],true⟩) (by rw[T.u];exact pD Z) E (by rw[T.u];rcases V with e|e;exact .inl e;exact .inr ⟨_,e,by simp⟩);have I:=g.cell 1 (by simp);have t:=g.frozen 1;simp only[X6,X7]at I;have f:=aC (P.u _ _ q.u _ _ l ⟨Yg (λJ=>J++_) o.u.cZ,o.u.tk,o.u.er,o.u.ln,o.u.rs⟩ (ao.u.trans j));clear E Z V l j g)
    all_goals go_wp2_with fail
    all_goals first
     |exact⟨⟨d+1,_,_,_,by first|rfl|simp,by go_num,by omega,f⟩,by simp only[aV];omega⟩
     |(go_roundw;exact⟨d+1,_,_,_,by first|rfl|simp,by go_num,by omega,f⟩;simp only[aV];omega)
   by_cases aB:rk (bD x.2)=114
   ·rw[aB]at d1;obtain⟨rfl,rfl⟩:=e0 (by rw[aB];decide);have r:=aC (Tz y.u D.u N aT.u x.1 114 (bD x.2).1.left (bD x.2).1.right (by omega) (by omega));unfold qX at r;have q:Hid (gA rec can n i op x=(decide ((gL i (bD x.2).1.left (bD x.2).1.right x.1).cH=0)&& !(ly (gL i (bD x.2).1.left (bD x.2).1.right x.1)).ph,gL i (bD x.2).1.left (bD x.2).1.right x.1)):=aC (by unfold gA;rw[Yb M,Yb Q,Yb ac,Yb af,Yb ar,Yd aB]);have bt:Hid ((gL i (bD x.2).1.left (bD x.2).1.right x.1).cH=0->(gL i (bD x.2).1.left (bD x.2).1.right x.1).aG≠[]):=aC Iy;have bi:Hid ((gL i (bD x.2).1.left (bD x.2).1.right x.1).aG.length<=64):=aC (by obtain⟨k,g1,-⟩:=X.u;obtain⟨-,k',g2,-⟩:=Kb g1 (bD x.2).1.left (bD x.2).1.right hx.2;exact g2.fU);generalize gL i (bD x.2).1.left (bD x.2).1.right x.1=B at*;generalize (bD x.2).1.right=R at*;generalize (bD x.2).1.left=L at*;go_upto_region 26 with(first|(go_at_call 108;refine r.u.mono ?_;rintro e w9⟨⟨ev,rfl⟩,m9,l,j,g⟩;have aL:=aC l;have aK:=aC j;have aE:=aC (P.u _ _ q.u _ _ l j g);clear l j g))
    obtain⟨-,-,y2,-,y4,-⟩:=aL.u.cells;rw[aK.u.er]at y4;clear c1 c2 c4 d0 d1 d2 d3;by_cases hB:B.cH=0
    ·rw[hB]at y4;obtain⟨ys,z,rs,bq,aq,a3,-,ax,-⟩:=aK.u.gC (bt.u hB);obtain⟨aS,cap,hv,-,-⟩:=dv aL.u.gP (by rw[aq];simp);have aW:=aL.u.gP;rw[hv,aq]at aW;have y5:=uq aW 5 _ rfl;rw[hv,aq,X4,Yx]at y2;have bB:ys.length<=64:=by have h1:=aK.u.len;have h2:=bi.u;rw[aq,X4,Yx]at h1;omega
     have f:=aE.u;have bc:(ly B).ph=z.ph:=by unfold ly;rw[a3];unfold Rm.key Ru.key at ax;simp only[adH]at ax;simp[ax.2.2.2.2.2]
     rw[bc,Y6 hB,Z7]at f;have f:=aC f;have bw:(ys.length:Int)<((ys.length:Int)+1):=by omega
     clear aW hv aq a3 ax bc aE aL aK;go_quiet (fail)
     go_wp2_with fail
     first
      |exact⟨⟨d+1,_,_,_,by first|rfl|simp,by go_num,by omega,aC (f.u.aD ⟨rfl,rfl,rfl,X0 _,λ_ _=>rfl⟩)⟩,by simp only[aV];omega⟩
      |(go_roundw;exact⟨d+1,_,_,_,by first|rfl|simp,by go_num,by omega,aC (f.u.aD ⟨rfl,rfl,rfl,X0 _,λ_ _=>rfl⟩)⟩;simp only[aV];omega)
    have ty:((B.cH:Int)==0)=false:=by rw[Yi];omega
    have f:=aE.u;rw[Y9 hB,qs]at f;have f:=aC f;clear aE;go_quiet (fail)
    go_wp2_with fail
    first
     |exact⟨⟨d+1,_,_,_,by first|rfl|simp,by go_num,by omega,aC (f.u.aD ⟨rfl,rfl,rfl,X0 _,λ_ _=>rfl⟩)⟩,by simp only[aV];omega⟩
     |(go_roundw;exact⟨d+1,_,_,_,by first|rfl|simp,by go_num,by omega,aC (f.u.aD ⟨rfl,rfl,rfl,X0 _,λ_ _=>rfl⟩)⟩;simp only[aV];omega)
   have r:=aC (nX y.u D.u N 1 x.1);have q:Hid (gA rec can n i op x=(op,i.dH 1 x.1)):=aC (by unfold gA;rw[Yb M,Yb Q,Yb ac,Yb af,Yb ar,Yb aB]);generalize bj:rk (bD x.2)=rk at*;have k0:((rk:Int)==0)=false:=by rw[Yi];omega
   have k1:((rk:Int)==99)=false:=by rw[Yi];omega
   have k2:((rk:Int)==105)=false:=by rw[Yi];omega
   have k3:((rk:Int)==108)=false:=by rw[Yi];omega
   have k4:((rk:Int)==102)=false:=by rw[Yi];omega
   have k5:((rk:Int)==114)=false:=by rw[Yi];omega
   clear bj;go_wp2_with (go_at_call 106;refine r.u.mono ?_;rintro e w9⟨⟨ev,rfl⟩,m9,l,j,g⟩;have f:=aC (P.u _ _ q.u _ _ l j g);clear l j g)
   first
    |exact⟨⟨d+1,_,_,_,by first|rfl|simp,by go_num,by omega,f⟩,by simp only[aV];omega⟩
    |(go_roundw;exact⟨d+1,_,_,_,by first|rfl|simp,by go_num,by omega,f⟩;simp only[aV];omega)
  have tz:((i.cH:Int)==0)=false:=by rw[Yi];omega
  have HO:=aC (A.u.cL (.inr N));go_wp2_with fail
  refine Yw (Zr rfl _ _ _) rfl ?_;exact⟨⟨_,rfl⟩,HO.u.2⟩
 have ti:¬(d:Int)<p.length:=by omega
 have HO:=aC (A.u.cL (.inl Y));go_wp2_with fail
 refine Yw (Zr rfl _ _ _) rfl ?_;exact⟨⟨_,rfl⟩,HO.u.2⟩


