/- . -/
import Derived.Test.YtjelacjggijmfaaGreatDoorYED8
set_option maxHeartbeats 16000000
set_option maxRecDepth 20000
namespace Go.Proofs.YtjelacjggijmfaaGreatDoor
open Pl Mk Cp Proofs.Tryz
open RowKit
theorem MB (c:xu)(a:ag)(d:a.length<=1048576)(w:ax):Calls prog 104 #[.string ⟨a.toArray⟩] w λe b=>∃v,e= .returned v/\iM b w.heap.size v (di a)/\Below w.heap.size w b :=by have:=J6 c ⟨a.toArray⟩ w (by rw[eh];omega);exact this
theorem FN (a8:xu){L0:ax}{bb:Nat}{vf:ay}{n:List aI}{G:Nat}{rec:Bk->ag->Bk}{can:Bool}(hT:G<=1048576)(a4:px G rec)(hf:∀bl aU,Pl.look n bl=some aU->aU.aT.length<=G)(bn:n.length<=16777216)(dp:Nat)(bg:can=decide (dp<3))(hC:can=true->xR L0 bb vf n G ((dp:Int)+1) rec):xR L0 bb vf n G (dp:Int) (λb s=>jj rec can n (di s) b false):=by
 intro W m b s ai h hi _ hs a6;show Calls _ _ _ _ λx W'=>mW L0 bb vf n m.os (jj rec can n (di s) b false) W x W';have CL:=aB (MB a8 s (by omega) W);have HX:Hid (∀d (Y:d<(di s).length),((di s)[d]).2.length<=G/\((di s)[d]).1<=G+1):=aB λd Y=>⟨TT (t_ (TV Y)) hs,TT (yx (TV Y)) (by omega)⟩;have X:=aB (gR.xA (add:=ai+lD (di s)) a6 (by have:=sf s;omega));have bw:(di s).length<=1048577:=by
  have h1:=sf s;have h2:∀J:List (Nat×ag),J.length<=lD J:=λJ=>by
   induction J with
   |nil=>exact TS _
   |cons a bq ih=>rw[Mk.sn,TK];omega
  have:=h2 (di s);omega
 have H:=aB h;have HI:=aB hi;have be:=aB a4;have a5:=aB hf;have HC:=aB hC;generalize di s=p at*;clear h hi a4 hf hC a6 a8;generalize ba:jj rec can n p b false=fin;have a':=aB ba;clear ba;go_enter func69,ntmps69;go_wp2_with (first|(go_at_call 104;refine CL.u.mono ?_;rintro e S ⟨v,rfl,hO,ab⟩;have HO:=aB hO;have am:=aB ab;clear hO ab CL;obtain⟨av,kv,gv,rfl,-,-⟩:=HO.u.tA)|fail)
 have bm:Hid (nL L0 W bb vf (.slice av p.length kv) n m.os p G ai rec can fin 0 false m b S):=aB (by obtain⟨c,bD,bo⟩:=HO.u;exact⟨(H.u.aE am.u).1,HI.u,(H.u.aE am.u).2,HO.u.tA,H.u.lZ bo,X.u,a'.u,λe=>(by cases e)⟩);clear HO am H HI X a';go_loopw [7,8] (λov iv wr=>∃(d:Nat) (op:Bool) (C :Bm) (i :Bk),ov= .bool op/\iv= .int .i64 d/\d<=p.length/\Hid (nL L0 W bb vf (.slice av p.length kv) n m.os p G ai rec can fin d op C i wr)) (λ_ iv _=>p.length-aS iv)
 case atStart=>exact⟨0,false,m,b,rfl,rfl,TS _,bm⟩
 case round=>
  obtain⟨d,op,C,i,rfl,rfl,hi,A⟩:=hrel;obtain⟨-,c1,c2,-,c4,-⟩:=A.u.mm.cells;have bz:=A.u.mm.row.lt;rw[A.u.ii.er] at c4;by_cases Y:d<p.length
  ·have ti:(d:Int)<(p.length:Int):=by omega
   by_cases N:i.cy=0
   ·rw[N] at c4;have hx:=HX.u d Y;obtain⟨p1,p2,-⟩:=ug p[d].2;obtain⟨a9,k9,g9,bk,a0,bf⟩:=A.u.w;cases bk;obtain rfl:=a0 (by omega);obtain⟨LB,RB,e0,d0,d1,d2,d3⟩:=bf d p[d] (TH Y);have aW:=aB (A.u.bd.size hT);have P:Hid (∀aR aw,fM rec can n i op p[d]=(aR,aw)->∀(K :ax) (m2:Bm),cG L0 K bb vf n m2->jF m2 aw ->dN wr K bb C.os m2.os->nL L0 W bb vf (.slice (some ⟨g9,0,none⟩) p.length kv) n m.os p G ai rec can fin (d+1) aR m2 aw K):=aB λaR aw hl K m2 l j g=>A.u.cF be.u a5.u Y hx N l hl j g;have y:=aB A.u.mm;have D:=aB A.u.ii;have bt:=aB A.u.ne;have X:=aB A.u.bd;have ae:Hid (∀(w:ax) (a1 :List ay),dN wr w bb C.os a1 ->∀aH,w.cell? ⟨g9,aH,none⟩=wr.cell? ⟨g9,aH,none⟩):=aB λw a1 hf aH=>by obtain⟨z1,z2,z3⟩:=A.u.wz g9 rfl;exact VJ (a:=⟨g9,aH,none⟩) (hf.jo g9 z1 z2 z3)
    generalize p[d]=x at*;clear a0 bf;by_cases M:rk (br x.2)=0
    ·rw[M] at d1;have f:=aB (P.u op i (by unfold fM;rw[TP M]) wr C y.u D.u (dN.refl _ _ _));go_wp2_with fail
     first
      |exact⟨⟨d+1,_,_,_,by first|rfl|simp,by go_num,by omega,f⟩,by simp only[aS];omega⟩
      |(go_roundw;exact⟨d+1,_,_,_,by first|rfl|simp,by go_num,by omega,f⟩;simp only[aS];omega)
    ·by_cases Q:rk (br x.2)=99
     ·rw[Q] at d1;obtain⟨rfl,rfl⟩:=e0 (by rw[Q];decide);cases op with
      |true=>
       have r:=aB (PI y.u D.u N aW.u (bt.u rfl) x.1 99 ⟨(br x.2).1.left.toArray⟩ (br x.2).1.right);unfold pO at r;have q:Hid (fM rec can n i true x=(true,kH i (br x.2).1.right x.1)):=aB (by unfold fM;rw[TJ M,TP Q,TP rfl]);generalize (br x.2).1.right=R at*;generalize (br x.2).1.left=L at*;go_wp2_with (first|(go_at_call 105;refine r.u.mono ?_;rintro e w9 ⟨⟨ev,rfl⟩,m9,l,j,g⟩;have f:=aB (P.u _ _ q.u _ _ l j g);clear l j g)|fail)
       first
        |exact⟨⟨d+1,_,_,_,by first|rfl|simp,by go_num,by omega,f⟩,by simp only[aS];omega⟩
        |(go_roundw;exact⟨d+1,_,_,_,by first|rfl|simp,by go_num,by omega,f⟩;simp only[aS];omega)
      |false=>
       have r:=aB (mC y.u D.u N 1 x.1);have q:Hid (fM rec can n i false x=(false,i.dk 1 x.1)):=aB (by unfold fM;rw[TJ M,TP Q,TJ (by decide)]);go_wp2_with (first|(go_at_call 106;refine r.u.mono ?_;rintro e w9 ⟨⟨ev,rfl⟩,m9,l,j,g⟩;have f:=aB (P.u _ _ q.u _ _ l j g);clear l j g)|fail)
       first
        |exact⟨⟨d+1,_,_,_,by first|rfl|simp,by go_num,by omega,f⟩,by simp only[aS];omega⟩
        |(go_roundw;exact⟨d+1,_,_,_,by first|rfl|simp,by go_num,by omega,f⟩;simp only[aS];omega)
     ·by_cases ac:rk (br x.2)=105
      ·rw[ac] at d1;obtain⟨rfl,rfl⟩:=e0 (by rw[ac];decide);have r:=aB (KK y.u D.u N hT X.u be.u a5.u bn dp bg HC.u x.1 hx.2 105 ⟨(br x.2).1.left.toArray⟩ (br x.2).1.right (by omega));unfold pO at r;have q:Hid (fM rec can n i op x=(false,lV rec can n i (br x.2).1.right x.1)):=aB (by unfold fM;rw[TJ M,TJ Q,TP ac]);clear bg;generalize (br x.2).1.right=R at*;generalize (br x.2).1.left=L at*;go_wp2_with (first|(go_at_call 107;refine r.u.mono ?_;rintro e w9 ⟨⟨ev,rfl⟩,m9,l,j,g⟩;have f:=aB (P.u _ _ q.u _ _ l j g);clear l j g)|fail)
       first
        |exact⟨⟨d+1,_,_,_,by first|rfl|simp,by go_num,by omega,f⟩,by simp only[aS];omega⟩
        |(go_roundw;exact⟨d+1,_,_,_,by first|rfl|simp,by go_num,by omega,f⟩;simp only[aS];omega)
      ·by_cases af:rk (br x.2)=108
       ·rw[af] at d1;obtain⟨rfl,rfl⟩:=e0 (by rw[af];decide);have q:Hid (fM rec can n i op x=(false,{i with aV:=i.aV++[⟨(br x.2).1.left,(br x.2).1.right,false⟩]})):=aB (by unfold fM;rw[TJ M,TJ Q,TJ ac,TP af]);have bh:C.cK.length<=105906277:=by rw[D.u.cK];exact X.u.aV hT
        obtain⟨aN,cN,O⟩:=dX y.u.cK;rw[O] at c1;have U:=aB y.u.cK;rw[O] at U;have T:=aB O;have F:=aB y.u;have o:=aB D.u;have ao:=aB (dN.refl wr bb C.os);obtain⟨i0,an,aj,ap,al⟩:=UF Tryz.Et;have aO:=aB an;have aP:=aB aj;have aQ:=aB ap;have aA:=aB al;clear an aj ap al;clear O;generalize (br x.2).1.right=R at*;generalize (br x.2).1.left=L at*;go_wp2_with fail
        go_region_law (refine qM rfl (.tmp 71) (.tmp 83) 108 rfl (bb+1) 223 i0 _ 3 40 ZN aO.u aP.u aQ.u aA.u rfl (by decide) _ C.cK.length _ (by simp[Act.eval]) (U.u.alloc _) ⟨_,0,none⟩ 1 1 (lL ⟨L,R,false⟩) (by simp[Act.eval]) rfl (gw _ _ (lL ⟨L,R,false⟩)) (by intro u hu;simp[lL] at hu;rcases hu with rfl|rfl|rfl<;>rfl) (by unfold maxLen;omega) (by omega) (by simp;omega) ?_;intro v1 w2 E Z V;obtain⟨g1,a7,rfl,-,-⟩:=d_ E (by omega);obtain⟨l,j,g⟩:=F.u.name (x:=⟨L,R,false⟩) (by rw[T.u];exact oU Z) E (by rw[T.u];rcases V with e|e;exact .inl e;exact .inr ⟨_,e,by simp⟩);have I:=g.cell 1 (by simp);have t:=g.frozen 1;simp only[TG,TI] at I;have f:=aB (P.u _ _ q.u _ _ l ⟨TU (λJ=>J++_) o.u.cK,o.u.tk,o.u.er,o.u.ln,o.u.rs⟩ (ao.u.trans j));clear E Z V l j g)
        all_goals go_wp2_with fail
        all_goals first
         |exact⟨⟨d+1,_,_,_,by first|rfl|simp,by go_num,by omega,f⟩,by simp only[aS];omega⟩
         |(go_roundw;exact⟨d+1,_,_,_,by first|rfl|simp,by go_num,by omega,f⟩;simp only[aS];omega)
       ·by_cases ar:rk (br x.2)=102
        ·rw[ar] at d1;obtain⟨rfl,rfl⟩:=e0 (by rw[ar];decide);have ah:Hid (fM rec can n i op x=(false,rA i (br x.2).1.left (br x.2).1.right x.1)):=aB (by unfold fM;rw[TJ M,TJ Q,TJ ac,TJ af,TP ar]);unfold rA at ah;have bp:=np (nR i.aV) (br x.2).1.right;obtain⟨aN,cN,O⟩:=dX y.u.cK;rw[O] at c1;have aJ:=aB O;have aG:Hid (∀w,Below wr.heap.size wr w->Calls prog 72 #[.slice aN C.cK.length cN,.string ⟨(br x.2).1.right.toArray⟩,.agg #[.bool false,.string ⟨#[]⟩,.string ⟨#[]⟩,.string ⟨#[]⟩,.string ⟨#[]⟩]] w λe W'=>e= .returned (kf (dd (nR i.aV) (br x.2).1.right))/\Below w.heap.size w W'):=aB λw hb=>by have h2:=y.u.rU.aE hb;rw[O,D.u.cK] at h2;rw[D.u.cK];exact vG h2 aW.u.aV _ (by omega)
         obtain⟨i0,an,aj,ap,al⟩:=UF Tryz.Et;have aO:=aB an;have aP:=aB aj;have aQ:=aB ap;have aA:=aB al;clear an aj ap al;clear O;generalize dd (nR i.aV) (br x.2).1.right=x1 at*;generalize (br x.2).1.right=R at*;generalize (br x.2).1.left=L at*;by_cases I:x1.er=0
         ·rw[uM I] at aG;rw[TJ (λe=>e I)] at ah;have q:=aB ah.u;go_wp2_with fail
          go_region_held3 (λK=>K.cell? ⟨bb,1,none⟩=some (.slice aN C.cK.length cN)/\K.cell? ⟨g9,d*4+3,none⟩=some (.string ⟨R.toArray⟩)) (first|with_reducible exact⟨c1,d3⟩|with_reducible exact⟨aa,ak⟩|go_keep) (first|(go_at_call 72;refine(aG.u _ (TF _ wr).drew).mono ?_;rintro e S ⟨rfl,ab⟩;have ad :=(TF _ wr).drew.trans ab;obtain⟨m1,t⟩:=y.u.aE ad;have aa :=m1.cells.2.1;rw[aJ.u] at aa;have a2 :=(ae.u S _ t _).trans d0;have a_ :=(ae.u S _ t _).trans d2;have ak :=(ae.u S _ t _).trans d3;have aY:=aB m1;have au:=aB t;have am:=aB ad;clear ab ad m1 t)|fail)
          have F:=aB aY.u;have o:=aB D.u;have ao:=aB au.u;have bh:C.cK.length<=105906277:=by rw[o.u.cK];exact X.u.aV hT
          have bv:=F.u.row.lt;have U:=aB F.u.cK;rw[aJ.u] at U;have T:=aB aJ.u;have c9:=aa;clear c1 aa d3 ak;generalize x1.bE=tx at*;go_wp2_with fail
          go_region_law (refine qM rfl (.tmp 117) (.tmp 125) 108 rfl (bb+1) 223 i0 _ 3 40 ZN aO.u aP.u aQ.u aA.u rfl (by decide) _ C.cK.length _ (by simp[Act.eval]) (U.u.alloc _) ⟨_,0,none⟩ 1 1 (lL ⟨L,tx,true⟩) (by simp[Act.eval]) rfl (gw _ _ (lL ⟨L,tx,true⟩)) (by intro u hu;simp[lL] at hu;rcases hu with rfl|rfl|rfl<;>rfl) (by unfold maxLen;omega) (by omega) (by simp;omega) ?_;intro v1 w2 E Z V;obtain⟨g1,a7,rfl,-,-⟩:=d_ E (by omega);obtain⟨l,j,g⟩:=F.u.name (x:=⟨L,tx,true⟩) (by rw[T.u];exact oU Z) E (by rw[T.u];rcases V with e|e;exact .inl e;exact .inr ⟨_,e,by simp⟩);have I:=g.cell 1 (by simp);have t:=g.frozen 1;simp only[TG,TI] at I;have f:=aB (P.u _ _ q.u _ _ l ⟨TU (λJ=>J++_) o.u.cK,o.u.tk,o.u.er,o.u.ln,o.u.rs⟩ (ao.u.trans j));clear E Z V l j g)
          all_goals go_wp2_with fail
          all_goals first
           |exact⟨⟨d+1,_,_,_,by first|rfl|simp,by go_num,by omega,f⟩,by simp only[aS];omega⟩
           |(go_roundw;exact⟨d+1,_,_,_,by first|rfl|simp,by go_num,by omega,f⟩;simp only[aS];omega)
         ·have bA:((x1.er:Int) !=0)=true:=by rw[UY];omega
          rw[ur I] at aG;rw[TP I] at ah;have q:=aB ah.u;go_wp2_with fail
          go_region_held3 (λK=>K.cell? ⟨bb,1,none⟩=some (.slice aN C.cK.length cN)/\K.cell? ⟨g9,d*4+3,none⟩=some (.string ⟨R.toArray⟩)) (first|with_reducible exact⟨c1,d3⟩|with_reducible exact⟨aa,ak⟩|go_keep) (first|(go_at_call 72;refine(aG.u _ (TF _ wr).drew).mono ?_;rintro e S ⟨rfl,ab⟩;have ad :=(TF _ wr).drew.trans ab;obtain⟨m1,t⟩:=y.u.aE ad;have aa :=m1.cells.2.1;rw[aJ.u] at aa;have a2 :=(ae.u S _ t _).trans d0;have a_ :=(ae.u S _ t _).trans d2;have ak :=(ae.u S _ t _).trans d3;have aY:=aB m1;have au:=aB t;have am:=aB ad;clear ab ad m1 t)|fail)
          have r:=aB (mC aY.u D.u N x1.er x.1);go_upto_region 23 with(first|(go_at_call 106;refine r.u.mono ?_;rintro e w9 ⟨⟨ev,rfl⟩,m9,l,j,g⟩;have bB :=(ae.u w9 _ (au.u.trans g) _).trans d2;have F:=aB l;have o:=aB j;have ao:=aB (au.u.trans g);clear l j g)|fail)
          have bs:Hid (gR G (i.dk x1.er x.1) (ai+lD (p.drop d))):=aB (X.u.dk bp.2 hx.2);have bh:m9.cK.length<=105906277:=by rw[o.u.cK];exact bs.u.aV hT
          obtain⟨aM,cM,aZ⟩:=dX F.u.cK;obtain⟨-,c9,-,-,-,-⟩:=F.u.cells;rw[aZ] at c9;have bv:=F.u.row.lt;have U:=aB F.u.cK;rw[aZ] at U;have T:=aB aZ;clear c1 aa d3 ak a2 a_ d2 d0 d1;go_region_law (refine qM rfl (.tmp 117) (.tmp 125) 108 rfl (bb+1) 223 i0 _ 3 40 ZN aO.u aP.u aQ.u aA.u rfl (by decide) _ m9.cK.length _ (by simp[Act.eval]) (U.u.alloc _) ⟨_,0,none⟩ 1 1 (lL ⟨L,[],true⟩) (by simp[Act.eval]) rfl (gw _ _ (lL ⟨L,[],true⟩)) (by intro u hu;simp[lL] at hu;rcases hu with rfl|rfl|rfl<;>rfl) (by unfold maxLen;omega) (by omega) (by simp;omega) ?_;intro v1 w2 E Z V;obtain⟨g1,a7,rfl,-,-⟩:=d_ E (by omega);obtain⟨l,j,g⟩:=F.u.name (x:=⟨L,[],true⟩) (by rw[T.u];exact oU Z) E (by rw[T.u];rcases V with e|e;exact .inl e;exact .inr ⟨_,e,by simp⟩);have I:=g.cell 1 (by simp);have t:=g.frozen 1;simp only[TG,TI] at I;have f:=aB (P.u _ _ q.u _ _ l ⟨TU (λJ=>J++_) o.u.cK,o.u.tk,o.u.er,o.u.ln,o.u.rs⟩ (ao.u.trans j));clear E Z V l j g)
          all_goals go_wp2_with fail
          all_goals first
           |exact⟨⟨d+1,_,_,_,by first|rfl|simp,by go_num,by omega,f⟩,by simp only[aS];omega⟩
           |(go_roundw;exact⟨d+1,_,_,_,by first|rfl|simp,by go_num,by omega,f⟩;simp only[aS];omega)
        ·by_cases aC:rk (br x.2)=114
         ·rw[aC] at d1;obtain⟨rfl,rfl⟩:=e0 (by rw[aC];decide);have r:=aB (Ps y.u D.u N aW.u x.1 114 (br x.2).1.left (br x.2).1.right (by omega) (by omega));unfold pO at r;have q:Hid (fM rec can n i op x=(decide ((fZ i (br x.2).1.left (br x.2).1.right x.1).cy=0)&& !(kb (fZ i (br x.2).1.left (br x.2).1.right x.1)).ph,fZ i (br x.2).1.left (br x.2).1.right x.1)):=aB (by unfold fM;rw[TJ M,TJ Q,TJ ac,TJ af,TJ ar,TP aC]);have bu:Hid ((fZ i (br x.2).1.left (br x.2).1.right x.1).cy=0->(fZ i (br x.2).1.left (br x.2).1.right x.1).aD≠[]):=aB Fm;have bi:Hid ((fZ i (br x.2).1.left (br x.2).1.right x.1).aD.length<=64):=aB (by obtain⟨k,g1,-⟩:=X.u;obtain⟨-,k',g2,-⟩:=Hc g1 (br x.2).1.left (br x.2).1.right hx.2;exact g2.gG);generalize fZ i (br x.2).1.left (br x.2).1.right x.1=B at*;generalize (br x.2).1.right=R at*;generalize (br x.2).1.left=L at*;go_upto_region 26 with(first|(go_at_call 108;refine r.u.mono ?_;rintro e w9 ⟨⟨ev,rfl⟩,m9,l,j,g⟩;have aL:=aB l;have aK:=aB j;have aF:=aB (P.u _ _ q.u _ _ l j g);clear l j g)|fail)
          obtain⟨-,-,y2,-,y4,-⟩:=aL.u.cells;rw[aK.u.er] at y4;clear c1 c2 c4 d0 d1 d2 d3;by_cases hB:B.cy=0
          ·rw[hB] at y4;obtain⟨ys,z,rs,bq,aq,a3,-,az,-⟩:=aK.u.fO (bu.u hB);obtain⟨aU,cap,hv,-,-⟩:=d_ aL.u.f_ (by rw[aq];simp);have aX:=aL.u.f_;rw[hv,aq] at aX;have y5:=sx aX 5 _ rfl;rw[hv,aq,TE,T6] at y2;have bC:ys.length<=64:=by have h1:=aK.u.len;have h2:=bi.u;rw[aq,TE,T6] at h1;omega
           have f:=aF.u;have bc:(kb B).ph=z.ph:=by unfold kb;rw[a3];unfold Rm.key Ru.key at az;simp only[Y2] at az;simp[az.2.2.2.2.2]
           rw[bc,Uz hB,Vz] at f;have f:=aB f;have bx:(ys.length:Int)<((ys.length:Int)+1):=by omega
           clear aX hv aq a3 az bc aF aL aK;go_quiet (fail)
           go_wp2_with fail
           first
            |exact⟨⟨d+1,_,_,_,by first|rfl|simp,by go_num,by omega,aB (f.u.aE ⟨rfl,rfl,rfl,TD _,λ_ _=>rfl⟩)⟩,by simp only[aS];omega⟩
            |(go_roundw;exact⟨d+1,_,_,_,by first|rfl|simp,by go_num,by omega,aB (f.u.aE ⟨rfl,rfl,rfl,TD _,λ_ _=>rfl⟩)⟩;simp only[aS];omega)
          ·have ty:((B.cy:Int)==0)=false:=by rw[TQ];omega
           have f:=aF.u;rw[UA hB,We] at f;have f:=aB f;clear aF;go_quiet (fail)
           go_wp2_with fail
           first
            |exact⟨⟨d+1,_,_,_,by first|rfl|simp,by go_num,by omega,aB (f.u.aE ⟨rfl,rfl,rfl,TD _,λ_ _=>rfl⟩)⟩,by simp only[aS];omega⟩
            |(go_roundw;exact⟨d+1,_,_,_,by first|rfl|simp,by go_num,by omega,aB (f.u.aE ⟨rfl,rfl,rfl,TD _,λ_ _=>rfl⟩)⟩;simp only[aS];omega)
         ·have r:=aB (mC y.u D.u N 1 x.1);have q:Hid (fM rec can n i op x=(op,i.dk 1 x.1)):=aB (by unfold fM;rw[TJ M,TJ Q,TJ ac,TJ af,TJ ar,TJ aC]);generalize bj:rk (br x.2)=rk at*;have k0:((rk:Int)==0)=false:=by rw[TQ];omega
          have k1:((rk:Int)==99)=false:=by rw[TQ];omega
          have k2:((rk:Int)==105)=false:=by rw[TQ];omega
          have k3:((rk:Int)==108)=false:=by rw[TQ];omega
          have k4:((rk:Int)==102)=false:=by rw[TQ];omega
          have k5:((rk:Int)==114)=false:=by rw[TQ];omega
          clear bj;go_wp2_with (first|(go_at_call 106;refine r.u.mono ?_;rintro e w9 ⟨⟨ev,rfl⟩,m9,l,j,g⟩;have f:=aB (P.u _ _ q.u _ _ l j g);clear l j g)|fail)
          first
           |exact⟨⟨d+1,_,_,_,by first|rfl|simp,by go_num,by omega,f⟩,by simp only[aS];omega⟩
           |(go_roundw;exact⟨d+1,_,_,_,by first|rfl|simp,by go_num,by omega,f⟩;simp only[aS];omega)
   ·have tz:((i.cy:Int)==0)=false:=by rw[TQ];omega
    have HO:=aB (A.u.cD (.inr N));go_wp2_with fail
    refine Ua (U' rfl _ _ _) rfl ?_;exact⟨⟨_,rfl⟩,HO.u.2⟩
  ·have ti:¬(d:Int)<(p.length:Int):=by omega
   have HO:=aB (A.u.cD (.inl Y));go_wp2_with fail
   refine Ua (U' rfl _ _ _) rfl ?_;exact⟨⟨_,rfl⟩,HO.u.2⟩
