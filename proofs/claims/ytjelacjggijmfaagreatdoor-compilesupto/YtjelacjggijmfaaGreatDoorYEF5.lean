/- . -/
import Derived.Test.YtjelacjggijmfaaGreatDoorYEDA
set_option maxHeartbeats 8000000
set_option maxRecDepth 20000
namespace Go.Proofs.YtjelacjggijmfaaGreatDoor
open Pl Mk Cp Proofs.Tryz
open RowKit
variable {m e:ax}{l i d n:Nat}{g:List aI}{k f:ay}{c:Wk}{j:List (List ag)}{a:List Wn}
theorem nN.ready {b:Bk}{S:(Nat×Nat)⊕List (List ag)}{z:Int}{wr:ax}(h:nN m l i g b k f c S d 0 0 z j a wr)(u:rK b g c)(v:d<c.aW.length)(t:c.aW[d]<a.length):
 vk b a[c.aW[d]].x/\a[c.aW[d]].cs=[]/\a[c.aW[d]].vc= .slice none 0 0/\∃n,pB (nR b.aV) (eC b a[c.aW[d]].x).sg (eC b a[c.aW[d]].x).aH [] n /\Ik (nR b.aV) ((fQ b c).drop (d+1)) j S n :=by
 have r:=u.lt _ (TV v);have y:a[c.aW[d]].x=c.aQ[c.aW[d]].1:=by have q:=TU (λA=>A[c.aW[d]]?) h.nx;simp only[UG,TH t,TH r,XB,WN] at q;exact q
 have C:(bS c c.aW[d]).1=c.aQ[c.aW[d]].1:=by unfold bS;rw[TO,TH r];rfl
 have w:c.aW[d]∉c.aW.take d:=λe=>by
  obtain⟨B,E,p⟩:=U8 e;rw[YQ] at p;have F:B<d:=by simp at E;omega
  exact W8.1 u.dE B d (by omega) v F p
 refine⟨by rw[y];exact u.sz _ (TV r),(h.un _ t w).1,(h.un _ t w).2,?_⟩;have s:=h.go rfl;have D:d<(fQ b c).length:=by unfold fQ;rw[TR];exact v
 rw[T2 D] at s;have p:(fQ b c)[d]=eC b (bS c c.aW[d]).1:=Ut ..;rw[p,C,<-y] at s;obtain⟨n,q,o⟩:=s;refine⟨n,q,?_⟩
 match n,o with
 | .inl e,o=>exact o
 | .inr A,o=>exact o
theorem nN.aE {wb:Nat}{b:Bk}{S:(Nat×Nat)⊕List (List ag)}{z:Int}{wr:ax}(h:nN m wb l g b k f c S i d n z j a wr)(o:Below wr.heap.size wr e):nN m wb l g b k f c S i d n z j a e :=⟨h.wo.aE o,h.nx,h.un,h.dn,h.ll,h.go,h.st,h.ok⟩
theorem la.cell {W:ax}{a:Option Addr}{n cap b:Nat}{d:List Nat}(h:la W (.slice a n cap) d)(k:a=some ⟨b,l,none⟩)(c:Nat)(i:c<d.length):W.cell? ⟨b,l+c,none⟩=some (.int .i64 (d[c]:Int)):=by obtain⟨o,p,m,q,f,g,j⟩:=h;cases f;obtain⟨e,-⟩:=g (by omega);rw[k] at e;cases e;exact j c i
theorem Ca {W:ax}(hT:l<=1048576)(hf:∀bM C,Pl.look g bM=some C->C.aT.length<=l)(bh:g.length<=16777216)(bd:fP (g.map (·.aJ))<=1048576)(U goal:ag)(a:Option Addr)(cap fb fo:Nat)(ha:0<g.length->a=some ⟨fb,fo,none⟩/\fb<W.heap.size)(hr:dA W fb fo g)(bs:(eb g U).cy=0->∀K∈(eb g U).aD,K.tg≠[]/\(K.b_=true->(K.tg.headD []).contains 37=true))(hQ:rp (eb g U) g goal i d c j):
 Calls prog 15 #[.slice a g.length cap,.string ⟨U.toArray⟩,.string ⟨goal.toArray⟩] W λe W'=>R' g (eb g U) i d c j W e W' :=by
 have CR:=aB (OK hT hf bh U a cap fb fo ha hr);obtain⟨k0,hG,b1⟩:=FI hf U;have Q:=hG.Tb hT b1;unfold Il at CR;generalize eb g U=b at*;have HG:=aB hG;have HS:=aB Q;have bQ:=aB bs;have bn:=aB bd;clear ha hr hf hG Q bs bd;go_enter func15,ntmps15;rcases hQ with⟨e0,y,V⟩|⟨e0,hQ⟩
 ·subst y V;have r:((b.cy:Int) !=0)=true:=by rw[UY];omega
  go_upto_region 2 with(first|(go_at_call 51;refine CR.u.mono ?_;rintro e p ⟨A,rfl,b7,hV,am⟩;have HV:=aB hV;have ad:=aB am;clear hV am)|fail)
  have c4:=HV.u.cy;have c5:=HV.u.bW;have cc:=HV.u.lt;have bP:=aB (ad.u.alloc ad.u.size (.cells #[.pointer (some ⟨A,0,none⟩),.slice none 0 0,.slice none 0 0,.int .i64 (b.cy:Int),.int .i64 (b.bW:Int)] 43));have a8:=aB (aG.bA p 43 [.pointer (some ⟨A,0,none⟩),.slice none 0 0,.slice none 0 0,.int .i64 (b.cy:Int),.int .i64 (b.bW:Int)]);go_wp2_with fail
  go_ret;exact⟨p.heap.size,rfl,bP.u,a8.u.lt,a8.u.cell 3 (by simp),a8.u.cell 4 (by simp),λe=>absurd e e0⟩
 ·have Q:=HS.u;have hA0:Hid (∀K∈b.aD,K.tg≠[]/\(K.b_=true->(K.tg.headD []).contains 37=true)):=aB (bQ.u e0);generalize hg:(if goal=[] then pg b else goal)=C at hQ;go_upto_region 2 with(first|(go_at_call 51;refine CR.u.mono ?_;rintro e p ⟨A,rfl,b7,hV,am⟩;have HV:=aB hV;have ad:=aB am;clear hV am)|fail)
  have ar:Below p.heap.size p (p.alloc (.cells #[.pointer (some ⟨A,0,none⟩),.slice none 0 0,.slice none 0 0,.int .i64 0,.int .i64 0] 43)):=aj p _;have hM:eZ p (p.alloc (.cells #[.pointer (some ⟨A,0,none⟩),.slice none 0 0,.slice none 0 0,.int .i64 0,.int .i64 0] 43)) p.heap.size A g b (.slice none 0 0) (.slice none 0 0) [] jg 0:=⟨aG.bA p 43 [.pointer (some ⟨A,0,none⟩),.slice none 0 0,.slice none 0 0,.int .i64 0,.int .i64 0],HV.u,ar,TD _,rfl,Uk _ _ _ _,Uk _ _ _ _,λx hx=>(by cases hx)⟩;have ba:=aB (HV.u.aE ar);have HM:=aB hM;have b':=aB (ad.u.tr ar);generalize b0:p.alloc (.cells #[.pointer (some ⟨A,0,none⟩),.slice none 0 0,.slice none 0 0,.int .i64 0,.int .i64 0] 43)=wA at*;clear b0 hM ar;have bG:W.heap.size<=p.heap.size:=ad.u.size;generalize bf:p.heap.size=wb at*;have bH:=aB bf;clear bf;have c4:=ba.u.cy;rw[e0] at c4;have c0:=HM.u.row.cell 0 (by simp);simp only[TG] at c0;have cb:=HM.u.row.lt;have CS:=aB (MT ba.u Q (λK hr=>(hA0.u K hr).1));go_upto_if 45 with fail
  rename_i K1 br;go_cut [2] from 10 (λgv wx=>gv= .string ⟨C.toArray⟩/\wx=wA)
  case first=>
   by_cases au:goal=[]
   ·subst au;rw[TP rfl] at hg;go_wp2_with (first|(go_at_call 52;refine CS.u.mono ?_;rintro e _ ⟨rfl,b5⟩;subst b5)|fail)
    go_meet
    case rel=>exact⟨rfl,rfl⟩
   ·rw[TJ au] at hg;subst hg;have b9:(goal==[])=false:=by rw[TQ];exact au
    have aR:List.isEmpty goal=false:=by cases goal with|nil=>exact absurd rfl au|cons _ _=>rfl
    go_wp2_with fail
    all_goals first
     |exact absurd (show List.isEmpty goal=true by assumption) (by rw[aR];decide)|(go_meet;exact⟨rfl,rfl⟩)
  case rest=>
   obtain⟨rfl,rfl⟩:=hcut;refine br _ _ ?_;clear br CS c4;have bj:Hid (∃y r,(C=[]/\y=8/\r=jg\/C≠[]/\2000<C.length/\y=5/\r=jg\/C≠[]/\C.length<=2000/\∃f,dZ b g f jg C=some (y,r)/\rK b g r)/\((y≠0/\i=y/\d=0)\/(y=0/\100<r.aQ.length/\i=5/\d=0)\/(y=0/\r.aQ.length<=100/\c=r/\∃S,qm (nR b.aV) (fQ b r) [] S/\xD S i d j))):=aB (by
    rcases hQ with⟨o,s,B⟩|⟨o,s,B,X⟩|⟨o,s,f,q,B,X,T⟩
    ·exact⟨8,jg,.inl ⟨o,rfl,rfl⟩,.inl ⟨by decide,s,B⟩⟩
    ·exact⟨5,jg,.inr (.inl ⟨o,s,rfl,rfl⟩),.inl ⟨by decide,B,X⟩⟩
    ·refine⟨q.1,q.2,.inr (.inr ⟨o,s,f,B,look_size HG.u bn.u s B⟩),?_⟩;rcases T with T|T|⟨T,h6,h7⟩
     ·exact .inl T
     ·exact .inr (.inl T)
     ·exact .inr (.inr ⟨T,h6,X,h7⟩))
   obtain⟨y,r,aY,bD⟩:=bj.u;have aq:=aB bD;clear bj hQ bD;apply wp_seq_k;intro K2 bo;go_cut [] from 10 (λwx=>∃vN vO xs,Hid (eZ p wx wb A g b vN vO xs r y))
   case first=>
    have f3:=HM.u.row.frozen 3;have c3:=HM.u.row.cell 3 (by simp);simp only[TG,TI] at c3;rcases aY with⟨o,s,B⟩|⟨o,s,B,X⟩|⟨o,s,f,B,X⟩
    ·subst o s B;have HE:=aB (HM.u.cy 8).1;go_wp2_with fail
     go_meet
     case rel=>exact⟨_,_,_,HE⟩
    ·subst B X;have HE:=aB (HM.u.cy 5).1;have aR:List.isEmpty C=false:=by cases C with|nil=>exact absurd rfl o|cons _ _=>rfl
     have bT:(2000:Int)<(List.length C:Int):=by omega
     go_wp2_with fail
     all_goals go_meet
     all_goals exact⟨_,_,_,HE⟩
    ·have aR:List.isEmpty C=false:=by cases C with|nil=>exact absurd rfl o|cons _ _=>rfl
     have bT:¬(2000:Int)<(List.length C:Int):=by omega
     have CL:=aB (E0 (L0:=p) (wb:=wb) (bb:=A) (b:=b) (fs:=g) (P:=1304704) (M:=1310000) ⟨Q,hA0.u,bh,λname x hx=>TT ((qV _).2.2 x hx) (yO HG.u bn.u name),Oz Q g,by decide,by decide⟩ f _ _ _ _ jg C (y,r) HM.u (by omega) B X.len ak);go_wp2_with (first|(go_at_call 53;refine CL.u.mono ?_;rintro e w5 ⟨⟨ev,rfl⟩,a5,ci,cj,bv,-⟩;have HE:=aB bv;clear bv)|fail)
     all_goals go_meet
     all_goals exact⟨_,_,_,HE⟩
   case rest=>
    obtain⟨vN,vO,xs,J⟩:=hcut;refine bo _ _ ?_;clear bo;apply wp_seq_k;intro K3 bq;have aA:xs.length=r.aQ.length:=by rw[<-J.u.nx,TR]
    obtain⟨aN,cN,bS⟩:=dX J.u.aQ;subst bS;have k1:=J.u.row.cell 1 (by simp);have E:=J.u.row.cell 3 (by simp);have f3:=J.u.row.frozen 3;simp only[TG,TI] at k1 E;go_cut [] from 10 (λwx=>∃vN vO xs V,Hid (eZ p wx wb A g b vN vO xs r V)/\Hid ((y=0/\r.aQ.length<=100/\V=0)\/(V≠0/\i=V/\d=0)))
    case first=>
     by_cases L:y=0
     ·subst L;by_cases hn:100<r.aQ.length
      ·have tn:(100:Int)<(xs.length:Int):=by omega
       have HE:=aB (J.u.cy 5).1;have HF:Hid ((0=0/\r.aQ.length<=100/\5=0)\/(5≠0/\i=5/\d=0)):=aB (by
        rcases aq.u with⟨o,-⟩|⟨-,-,s⟩|⟨-,o,-⟩
        ·exact absurd rfl o
        ·exact .inr ⟨by decide,s⟩
        ·omega)
       go_wp2_with fail
       go_meet
       case rel=>exact⟨_,_,_,5,HE,HF⟩
      ·have tn:¬(100:Int)<(xs.length:Int):=by omega
       go_wp2_with fail
       go_meet
       case rel=>exact⟨_,_,_,0,J,aB (Or.inl ⟨by trivial,by omega,by trivial⟩)⟩
     ·have te:((y:Int)==0)=false:=by rw[TQ];omega
      have HF:Hid ((y=0/\r.aQ.length<=100/\y=0)\/(y≠0/\i=y/\d=0)):=aB (by
       rcases aq.u with⟨-,s⟩|⟨o,-⟩|⟨o,-⟩
       ·exact .inr ⟨L,s⟩
       ·exact absurd o L
       ·exact absurd o L)
      go_wp2_with fail
      go_meet
      case rel=>exact⟨_,_,_,y,J,HF⟩
    case rest=>
     obtain⟨a2,cd,Y,V,H,a0⟩:=hcut;refine bq _ _ ?_;clear bq k1 E f3 aA J;by_cases hz:V=0
     ·subst hz;obtain⟨o,s,-⟩:=a0.u.resolve_right (λq=>q.1 rfl);have bu:rK b g r:=by
       rcases aY with⟨-,q,-⟩|⟨-,-,q,-⟩|⟨-,-,f,-,q⟩
       ·omega
       ·omega
       ·exact q
      obtain⟨S,bF,bx,rfl⟩:∃S,qm (nR b.aV) (fQ b r) [] S/\xD S i d j/\c=r:=by
       rcases aq.u with⟨q,-⟩|⟨-,q,-⟩|⟨-,-,q,S,q1,q2⟩
       ·exact absurd o q
       ·omega
       ·exact⟨S,q1,q2,q⟩
      have aA:Y.length=c.aQ.length:=by rw[<-H.u.nx,TR]
      have bk:=H.u.wo;have HX:Hid ((Y.map λx=>(⟨x.1.1,x.1.2,x.2,[],.slice none 0 0⟩:Wn)).map (·.x)=c.aQ.map (·.1)):=aB (by rw[WT,<-H.u.nx,WT];rfl);have HU:Hid (∀I (h:I<(Y.map λx=>(⟨x.1.1,x.1.2,x.2,[],.slice none 0 0⟩:Wn)).length),((Y.map λx=>(⟨x.1.1,x.1.2,x.2,[],.slice none 0 0⟩:Wn))[I]).cs=[]/\((Y.map λx=>(⟨x.1.1,x.1.2,x.2,[],.slice none 0 0⟩:Wn))[I]).vc= .slice none 0 0):=aB λI h=>by rw[Ut];exact⟨rfl,rfl⟩
      have bV:(Y.map λx=>(⟨x.1.1,x.1.2,x.2,[],.slice none 0 0⟩:Wn)).length=c.aQ.length:=by rw[TR,aA]
      obtain⟨Z,O,a_⟩:=dX H.u.aW;subst a_;generalize (Y.map λx=>(⟨x.1.1,x.1.2,x.2,[],.slice none 0 0⟩:Wn))=ys at*;have bY:Hid (nN p wb A g b a2 (.slice Z c.aW.length O) c S 0 0 0 0 [] ys wc):=aB ⟨bk,HX.u,λI h _=>HU.u I h,λI _ hj=>absurd hj (by omega),λ_=>rfl,λ_=>bF,λe=>absurd rfl e,λ_=>⟨rfl,rfl,TS _⟩⟩;have az:=aB bu;have bC:=aB bx;clear bk HX HU H a0 aY aq bF bx bu aA o;go_wp2_with fail
      go_loopw [8,9] (λmv iv wr=>∃(m e3 l3:Nat) (z:Int) (aK:List (List ag)) (t:List Wn),mv= .int .i64 z/\iv= .int .i64 m/\m<=c.aW.length/\t.length=c.aQ.length/\Hid (nN p wb A g b a2 (.slice Z c.aW.length O) c S m e3 l3 z aK t wr)) (λ_ iv _=>c.aW.length-aS iv)
      case atStart=>exact⟨0,0,0,0,[],ys,rfl,rfl,TS _,bV,bY⟩
      case round=>
       obtain⟨m,e3,l3,z,aK,t,rfl,rfl,hi,aU,v⟩:=hrel;have k1:=v.u.wo.row.cell 1 (by simp);have k2:=v.u.wo.row.cell 2 (by simp);have E:=v.u.wo.row.cell 3 (by simp);have N:=v.u.wo.row.cell 4 (by simp);simp only[TG,TI,dg] at k1 k2 E N;have a9:=v.u.wo.row.lt;have ah:Hid (∀w,Below p.heap.size p w->Below W.heap.size W w):=aB λw hw=>ad.u.trans (hw.mono (by rw[bH.u];exact bG));by_cases L:e3=0
       ·subst L;obtain⟨b8,al,b3⟩:=v.u.ok rfl;subst b8;by_cases hk:m<c.aW.length
        ·have ti:(m:Int)<(c.aW.length:Int):=by omega
         have cf:=az.u.lt _ (TV hk);have ao:c.aW[m]<t.length:=by omega
         obtain⟨ap,bl,bt,S',hO,bc⟩:=v.u.ready az.u hk ao;obtain⟨gN,af,b4,-,-⟩:=d_ v.u.wo.aQ (by omega);obtain⟨aa,ca,bO,oO,bN,bp,-⟩:=v.u.wo.aW;have a7:=(bp (by omega)).1;cases bN;have bE:=aB a7;have a4:Hid (∀w a5 os k be F D,eA p w wb A g b a5 (.slice Z c.aW.length O) os k be c.aW F D ->w.cell? ⟨bO,oO+m,none⟩=some (.int .i64 (c.aW[m]:Int))):=aB λw a5 os k be F D hw=>hw.aW.cell bE.u m hk;have o0:=a4.u _ _ _ _ _ _ _ v.u.wo;rw[a7] at k2;subst b4;have CO:Hid (∀w,Below wr.heap.size wr w->Calls prog 54 #[.pointer (some ⟨wb,0,none⟩),.pointer (some ⟨gN,c.aW[m]*7,none⟩)] w λe W'=>ID p wb A g b (.slice (some ⟨gN,0,none⟩) t.length af) (.slice Z c.aW.length O) t c.aW[m] c.aW S' e W'):=aB λw hb=>La (v.u.wo.aE hb) ao bl bt Q (OJ ap) ap.IX (by have:=(qV t[c.aW[m]].x.aF).1;have:=ap.sum;omega) hO;have aM:∀q,S' = .inl q->q.1≠0:=λq e=>by subst e;exact wZ hO
         have a3:∀an,S' = .inr an->an.length<=110000000:=λan e=>by
          subst e;have o:=zV hO;have s:(eC b t[c.aW[m]].x).aH.length<=110000000:=by
           unfold eC;show(match t[c.aW[m]].x.gu with|none=>[]|some m=>(b.aD.getD m cQ).cs).length<=_;split
           ·exact TS _
           ·rename_i I hj;have bg:=ap.IX I hj;rw[TO,TH bg];exact(Q.aD _ (TV bg)).cs
          rw[T1] at o;omega
         have bm:Hid (∀(w' :ax) (G :List ag) (R :ay) (F D :Nat) (z' :Int),eA p w' wb A g b (.slice (some ⟨gN,0,none⟩) t.length af) (.slice Z c.aW.length O) [.slice (some ⟨gN,0,none⟩) t.length af] t.length (t.set c.aW[m] {t.getD c.aW[m] iA with cs:=G,vc:=R }) c.aW F D ->AR S' F D G ->(F =0->z' =z+(G.length:Int))->∃ai,nN p wb A g b (.slice (some ⟨gN,0,none⟩) t.length af) (.slice Z c.aW.length O) c S (m+1) F D z' ai (t.set c.aW[m] {t.getD c.aW[m] iA with cs:=G,vc:=R }) w'):=aB λw' G R F D z' o s B=>v.u.step hk ao az.u.dE o s a3 aM bc B;have bX:=aB a3;have ce:(c.aW[m]:Int)<(t.length:Int):=by omega
         have ch:m<=100:=by have o:=az.u.ol;omega
         have bL:=aB aM;have bK:c.aW[m]≠t.length:=by omega
         clear ap bl bt hO bc aM a3 bp a7;generalize b2:c.aW[m]=kk at*;clear b2;have bR:iL aK<=11000000000:=by omega
         go_upto_region 19 with fail
         go_region_held3 (λw'=>w'.cell? ⟨wb,1,none⟩=some (.slice (some ⟨gN,0,none⟩) t.length af)/\w'.cell? ⟨wb,2,none⟩=some (.slice (some ⟨bO,oO,none⟩) c.aW.length O)/\w'.cell? ⟨bO,oO+m,none⟩=some (.int .i64 (kk:Int))) (first|with_reducible exact⟨k1,k2,o0⟩|with_reducible exact⟨bi,aP,b6⟩|go_keep) (first|(go_at_call 54;refine(CO.u _ (TF _ wr).drew).mono ?_;rintro e w5 ⟨⟨ev,rfl⟩,G,R,F,D,ac,bz⟩;have bi :=ac.row.cell 1 (by simp);have aP :=ac.row.cell 2 (by simp);simp only[TG,TI] at bi aP;rw[bE.u] at aP;have b6 :=a4.u _ _ _ _ _ _ _ ac;have aX:=(ac.aH kk (by rw[UB];exact ao) bK).1;rw[WB] at aX;obtain⟨a6,c6,a'⟩:=aX.iN;have n6:=gx (g:=gN) (n:=t.length) (cap:=af) (by have:=ac.aQ;rw[UB] at this;exact this) (kk*7+6) R (by rw[pk (f:=iH) (λ_=>rfl) _ kk 6 (by rw[UB];exact ao) (by decide),WB];rfl);rw[show R = .slice a6 G.length c6 from a'] at n6;have bw:=aB ac;have a1:=aB bz;clear ac bz aX a')|fail)
         clear k1 k2 E N o0 CO a4;by_cases bI :F =0
         ·subst bI;have cg:G.length<=110000000:=by
           have o:=a1.u
           match S',o,bL.u,bX.u with
           | .inl q,o,s,_=>exact absurd o.1.symm (s q rfl)| .inr an,o,_,B=>rw[o.2.2];exact B an rfl
          obtain⟨ai,aC⟩:=bm.u w5 G R 0 D (z+(G.length:Int)) bw.u a1.u (λ_=>rfl);have HN:=aB aC;clear aC;subst al;go_wp2_with fail
          go_quiet (fail)
          go_wp2_with fail
          first
           |exact⟨⟨m+1,0,D,_,ai,_,rfl,by go_num,by omega,by rw[UB];exact aU,aB (HN.u.aE ⟨rfl,rfl,rfl,TD _,λ_ _=>rfl⟩)⟩,by simp only[aS];omega⟩
           |(go_roundw;exact⟨m+1,0,D,_,ai,_,rfl,by go_num,by omega,by rw[UB];exact aU,aB (HN.u.aE ⟨rfl,rfl,rfl,TD _,λ_ _=>rfl⟩)⟩;simp only[aS];omega)
         ·clear al b3 bR;go_wp2_with fail
          go_quiet (fail)
          go_wp2_with fail
          have bJ:=aB λz'=>bm.u w5 G R F D z' bw.u a1.u (λe=>absurd e bI);go_roundw
          case rel=>obtain⟨ai,aC⟩:=bJ.u _;exact⟨m+1,F,D,_,ai,_,rfl,by go_num,by omega,by rw[UB];exact aU,aB (aC.aE ⟨rfl,rfl,rfl,TD _,λ_ _=>rfl⟩)⟩
          case measure=>simp only[aS];omega
        ·have ti:¬(m:Int)<(c.aW.length:Int):=by omega
         have av:S= .inr aK:=by have:=v.u.go rfl;rw[U_ (by unfold fQ;rw[TR];omega)] at this;exact this
         have gp:=bC.u;rw[av] at gp;obtain⟨q1,q2,q3⟩:=gp;subst q1 q2;by_cases T:500<iL j
         ·have h6:i=5:=by
           rcases q3 with q|q
           ·exact q.2
           ·omega
          subst h6;have t5:(500:Int)<z:=by rw[al];omega
          have aL:=v.u.wo.aZ 3 5 0 5 (.inl ⟨rfl,rfl,rfl⟩);have aw:=aB aL.row;have ab:=aB (ah.u _ aL.bU);have f3:=v.u.wo.row.frozen 3;unfold dg at aw ab;clear aL al;go_wp2_with fail
          go_ret;exact⟨wb,rfl,ab.u,aw.u.lt,aw.u.cell 3 (by simp),aw.u.cell 4 (by simp),λe=>(by cases e)⟩
         ·have h6:i=0:=by
           rcases q3 with q|q
           ·omega
           ·exact q.2
          subst h6;have t5:¬(500:Int)<z:=by rw[al];omega
          have ab:=aB (ah.u _ v.u.wo.bU);clear al;go_wp2_with fail
          go_ret;exact⟨wb,rfl,ab.u,a9,E,N,λ_=>⟨p,A,a2,_,t,v.u.wo,v.u.nx,λI hj=>v.u.dn I hj (by omega) rfl⟩⟩
       ·have te:((e3:Int)==0)=false:=by rw[TQ];omega
        have av:=v.u.st L;have gp:=bC.u;rw[av] at gp;obtain⟨q1,q2⟩:=gp;have ab:=aB (ah.u _ v.u.wo.bU);have ae:Hid (i=e3/\d=l3):=aB ⟨q1,q2⟩;clear q1 q2 av;by_cases hk:m<c.aW.length
        ·have ti:(m:Int)<(c.aW.length:Int):=by omega
         go_wp2_with fail
         go_ret;exact⟨wb,rfl,ab.u,a9,by rw[E,ae.u.1];rfl,by rw[N,ae.u.2];rfl,λe=>absurd (ae.u.1.symm.trans e) L⟩
        ·have ti:¬(m:Int)<(c.aW.length:Int):=by omega
         go_wp2_with fail
         go_ret;exact⟨wb,rfl,ab.u,a9,by rw[E,ae.u.1];rfl,by rw[N,ae.u.2];rfl,λe=>absurd (ae.u.1.symm.trans e) L⟩
     ·obtain⟨-,s,B⟩:=a0.u.resolve_left (λq=>hz q.2.2);subst s B;have te:((i:Int)==0)=false:=by rw[TQ];omega
      obtain⟨Z,O,a_⟩:=dX H.u.aW;subst a_;have k2:=H.u.row.cell 2 (by simp);have E:=H.u.row.cell 3 (by simp);have N:=H.u.row.cell 4 (by simp);simp only[TG,TI] at k2 E N;have bB:=H.u.row.lt;have ah:Hid (Below W.heap.size W wc):=aB (ad.u.trans (H.u.bU.mono (by rw[bH.u];exact bG)));go_wp2_with fail
      go_loopw [8,9] (λmv iv wr=>mv= .int .i64 0/\iv= .int .i64 0/\wr=wc) (λ_ _ _=>0)
      case atStart=>exact⟨rfl,rfl,rfl⟩
      case round=>
       obtain⟨rfl,rfl,bZ⟩:=hrel;subst bZ;by_cases ho:0<r.aW.length
       ·have t0:(0:Int)<(r.aW.length:Int):=by omega
        go_wp2_with fail
        go_ret;exact⟨wb,rfl,ah.u,bB,E,N,λe=>absurd e hz⟩
       ·have t0:¬(0:Int)<(r.aW.length:Int):=by omega
        go_wp2_with fail
        go_ret;exact⟨wb,rfl,ah.u,bB,E,N,λe=>absurd e hz⟩
