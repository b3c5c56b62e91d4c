/- . -/
import Derived.Test.YtjelacjggijmfaaGreatDoorYGE8
set_option maxHeartbeats 4000000
set_option maxRecDepth 100000
namespace Go.Proofs.YtjelacjggijmfaaGreatDoor
open Pl Mk Cp Proofs.Tryz
open RowKit MapKept ChangeMaps Maps
section
variable {W X Y:ax} {L wk st:Nat} {c:Ad} {rb:Nat->Nat} {s:St} {vp:ay} {l:df} {bf bi:Nat} {ve:ay} {ef:List bL} {fs:List aI} {aP:Int} {us:List (Nat×List ag)} {v2 vo vv:ay} {bF:dM} {qo qv:List Vq} {t:cE}
theorem pr (b:List Vq)(q:Vq)(a:Nat)(u:ay)(h:(mu q)[a]?=some u):((b++[q]).flatMap mu)[b.length*6+a]?=some u:=by rw[US,Uq (by rw[sW];omega),sW,Vf];simpa using h
theorem Nb (q:Vq)(f:eM W L wk st c rb s vp l bf bi ve ef fs aP us v2 vo vv bF (qo++[q]) qv)(hl:bF.length<=4294967296)(hn:qo.length<=4294967296):
 Calls prog 190 #[.pointer (some ⟨wk,0,none⟩)] W λe U=>e= .returned (.tuple #[])/\(∃aw az,eM U L wk st c rb s vp l bf bi ve ef fs aP us v2 aw az (cL bF q.nd.name 2) qo (if qv.length<=100 then qv++[q] else qv))/\Below L W U :=by
 obtain⟨i0,ar,ao,au,aA⟩:=UF Tryz.Ov;have j:=f.opn;rw[TE,TK,T1,Ur] at j;rcases j.2 with⟨-,e⟩|⟨n,cap,aO,rfl,e2,J,e4,-⟩
 ·omega
 have x:=f.mX q (by simp);obtain⟨b,d,N⟩:=x.1.sh;obtain⟨am,g,aa⟩:=x.2.sh;have aj:=aB x;obtain⟨a,D,vn,vc⟩:=q;simp only at N aa;subst N aa;have w:=gx j (qo.length*6+0) _ (pr qo _ 0 _ rfl);have T:=gx j (qo.length*6+1) _ (pr qo _ 1 _ rfl);have Q:=gx j (qo.length*6+2) _ (pr qo _ 2 _ rfl);have O:=gx j (qo.length*6+3) _ (pr qo _ 3 _ rfl);have A:=gx j (qo.length*6+4) _ (pr qo _ 4 _ rfl);rw[Ve] at w;unfold aK at w A;simp only at w T Q O A;have d4:=f.eE.row.cell? (i:=4) rfl;have f4:=f.eE.row.frozen 4;have aN:=f.eE.row.lt;have lg:=(TN.1 J).1;obtain⟨B,E⟩:=f.Sj;have S:(W.setCell ⟨wk,4,none⟩ (.slice (some ⟨n,0,none⟩) qo.length cap)).heap.size=W.heap.size:=by simp[World.setCell]
 have z:=(TF (W.setCell ⟨wk,4,none⟩ (.slice (some ⟨n,0,none⟩) qo.length cap)).heap.size (W.setCell ⟨wk,4,none⟩ (.slice (some ⟨n,0,none⟩) qo.length cap))).alloc ak (.cells #[.string ⟨a.name.toArray⟩,.bool a.ph,.slice b a.aF.length d,.slice am a.aH.length g,.string ⟨a.stem.toArray⟩] 197);have H:=aG.bA (W.setCell ⟨wk,4,none⟩ (.slice (some ⟨n,0,none⟩) qo.length cap)) 197 [.string ⟨a.name.toArray⟩,.bool a.ph,.slice b a.aF.length d,.slice am a.aH.length g,.string ⟨a.stem.toArray⟩];rw[S] at H;have r:=aB (B.aE z);have F:=aB H;have af:=aB ((f.aL E).trans (z.mono B.lW));have ae:=aB ((aj.u.bl (f.bl E)).bl (Bl.aL z));have aQ:n≠wk:=λe=>by have C:=f.eE.row;unfold aG at C;rw[<-e,J] at C;cases C
 have aJ:(qo++[(⟨a,D,.slice b a.aF.length d,.slice am a.aH.length g⟩:Vq)]).length=qo.length+1:=by simp
 clear f j x J B E H z e2 aJ S;have s0:(0:Int)<=(qo.length:Int):=by omega
 go_enter func190,ntmps190;go_upto_region 3 with fail
 generalize (W.setCell ⟨wk,4,none⟩ (.slice (some ⟨n,0,none⟩) qo.length cap)).alloc (.cells #[.string ⟨a.name.toArray⟩,.bool a.ph,.slice b a.aF.length d,.slice am a.aH.length g,.string ⟨a.stem.toArray⟩] 197)=Z at*;clear w T Q O A d4 f4;have h:Below Z.heap.size Z Z.drew:=(TF _ Z).drew;obtain⟨k,aR,m3,K,R⟩:=Sp (r.u.aE h) hl a.name;have r3:=r.u.eE.row.cell? (i:=3) rfl;have n0:=F.u.cell? (i:=0) rfl;have m:=aB m3;have ac:=aB ((af.u.trans (h.mono r.u.lW)).trans ((r.u.aE h).aL K));have ah:=aB ((ae.u.bl (Bl.aL h)).bl ((r.u.aE h).bl K));have o:Hid (aG k W.heap.size 197 [.string ⟨a.name.toArray⟩,.bool a.ph,.slice b a.aF.length d,.slice am a.aH.length g,.string ⟨a.stem.toArray⟩]):=(F.u.aE h).tn (lx (p:=λq=>q=st) R rfl) (mA (F.u.aE h) (r.u.aE h).mp);clear m3 K R h;obtain⟨av,cv,aC⟩:=gL m.u.iI;subst aC;have r5:=m.u.eE.row.cell? (i:=5) rfl;by_cases P:qv.length<=100
 ·have u1:(qv.length:Int)<=100:=by omega
  have M:=aB P;have y:Below k.heap.size k (k.drew.alloc (.cells #[.string ⟨a.name.toArray⟩,.bool a.ph,.slice b a.aF.length d,.slice am a.aH.length g,.string ⟨a.stem.toArray⟩] 197)):=((TF k.heap.size k).drew).alloc ak _;have v:=aB (m.u.aE y);have ai:=aB (ah.u.bl (Bl.aL y));have al:=aB (aG.bA k.drew 197 [.string ⟨a.name.toArray⟩,.bool a.ph,.slice b a.aF.length d,.slice am a.aH.length g,.string ⟨a.stem.toArray⟩]);have p0:=o.u.cell? (i:=0) rfl;have p1:=o.u.cell? (i:=1) rfl;have p2:=o.u.cell? (i:=2) rfl;have p3:=o.u.cell? (i:=3) rfl;have p4:=o.u.cell? (i:=4) rfl;have aS:=o.u.lt;have aM:=m.u.eE.row.lt;have aq:=v.u.lW;have ap:=aB (y.mono m.u.lW);clear y;go_region
  all_goals go_wp2_with fail
  all_goals go_region_law (first|(refine pS rfl (.tmp 43) (.tmp 45) 130 rfl L 197 i0 _ 5 88 underlying130 ar ao au aA rfl (by decide) _ qv.length (qv.flatMap lj) (by rfl) v.u.iI ⟨k.heap.size,0,none⟩ 1 1 [.string ⟨a.name.toArray⟩,.bool a.ph,.slice b a.aF.length d,.slice am a.aH.length g,.string ⟨a.stem.toArray⟩] (by rfl) (by rfl) (λaT u hj=>by rw[ji];exact al.u.cell? hj) (Oa ⟨a,D,.slice b a.aF.length d,.slice am a.aH.length g⟩ rfl rfl) (by unfold maxLen;omega) (by omega) aq ?_;intro v6 w6 I ab _;obtain⟨a6,c6,rfl⟩:=gL I;obtain⟨G,m6,V⟩:=v.u.Rt (q:=⟨a,D,.slice b a.aF.length d,.slice am a.aH.length g⟩) ai.u I ab;have y5:=G.cell? (i:=5) rfl;have z5:=G.frozen 5;have ad:=aB m6;have aD:=aB V;clear m6 V I ab G)|fail)
  all_goals go_wp2_with fail
  all_goals go_end0
  all_goals exact⟨rfl,⟨_,_,by first|exact ad.u|(rw [TP M.u];exact ad.u)⟩,(ac.u.trans ap.u).trans (v.u.aL aD.u)⟩
 ·have u1:¬(qv.length:Int)<=100:=by omega
  have M:=aB P;go_region
  all_goals go_wp2_with fail
  all_goals go_end0
  all_goals exact⟨rfl,⟨_,_,by first|exact m.u|(rw [TJ M.u];exact m.u)⟩,ac.u⟩
end
def fA (s:St)(fs:List aI)(us:List (Nat×List ag))(t:cE):Nat×cE:=match t.opn.getLast? with|none=>(0,t)|some x=>if x.2=x.1.aF.length then(0,lX t) else dB s fs us {t with opn:=t.opn.dropLast++[(x.1,x.2+1)]} (x.1.aF.getD x.2 [])
variable {a:Nat}
theorem ua {W:ax}{B e size n cap:Nat}{d:List ay}(h:W.ownsRow B e size (.slice (some ⟨a,0,none⟩) n cap) n d)(g:Nat):W.frozen? ⟨a,g,none⟩=false:=by
 rcases h.2 with⟨b,-⟩|⟨i,j,m,b,k,f,-⟩
 ·cases b
 ·cases b;simp[World.frozen?,f]
section
variable {W X Y:ax} {L wk st:Nat} {c:Ad} {rb:Nat->Nat} {s:St} {vp:ay} {l:df} {bf bi:Nat} {ve:ay} {ef:List bL} {fs:List aI} {aP:Int} {us:List (Nat×List ag)} {v2 vo vv:ay} {bF:dM} {qo qv:List Vq} {t:cE}
theorem eM.RU {cap:Nat}{q:Vq}(h:eM W L wk st c rb s vp l bf bi ve ef fs aP us v2 (.slice (some ⟨a,0,none⟩) (qo.length+1) cap) vv bF (qo++[q]) qv):
 eM (W.setCell ⟨a,qo.length*6+5,none⟩ (.int .i64 ((q.lk:Int)+1))) L wk st c rb s vp l bf bi ve ef fs aP us v2 (.slice (some ⟨a,0,none⟩) (qo.length+1) cap) vv bF (qo++[{q with lk:=q.lk+1}]) qv/\Tn (jI wk st (.slice (some ⟨a,0,none⟩) (qo.length+1) cap) vv) W (W.setCell ⟨a,qo.length*6+5,none⟩ (.int .i64 ((q.lk:Int)+1))):=by
 have j:Tn (jI wk st (.slice (some ⟨a,0,none⟩) (qo.length+1) cap) vv) W (W.setCell ⟨a,qo.length*6+5,none⟩ (.int .i64 ((q.lk:Int)+1))):=Tn.set W ⟨a,qo.length*6+5,none⟩ _ (.inr (.inr (.inl rfl)));have g:=h.bl j;have b:=h.opn;rw[TE,TK,T1,Ur] at b;have m:=qU b (qo.length*6+5) (.int .i64 ((q.lk:Int)+1));have r:((qo++[q]).flatMap mu).set (qo.length*6+5) (.int .i64 ((q.lk:Int)+1))=(qo++[{q with lk:=q.lk+1}]).flatMap mu:=by rw[US,US,Vg _ _ (by rw[sW];omega),sW,Vf];rfl
 rw[r] at m;have p:a≠wk:=λe=>kE h.eE.row b (by decide) (by rw[<-e];rfl);have n:st≠a:=λe=>by obtain⟨x,v,d⟩:=eN b a rfl;obtain⟨w,C,u,-⟩:=h.mp;rw[<-e,u] at d;cases d
 have o:some a≠vv.ownBlock:=λe=>by obtain⟨y,z,d⟩:=eN h.iI a e.symm;obtain⟨A,B,k⟩:=eN b a rfl;rw[d] at k;cases k
 refine⟨h.next j (h.eE.row.eH (aa9 p) _ _) (h.mp.setCell n _) (by rw[TE];exact m) (λi f=> ?_) (dQ h.iI o _ _) (λi f=>(h.oS i f).bl g),j⟩;rcases T4.1 f with e|e
 ·exact(h.mX i (Ul _ e)).bl g
 ·rw[TL] at e;subst e;exact(h.mX q (by simp)).bl g
theorem Pt (k:Nat)(h:lM W L wk st c rb s vp l bf bi ve ef fs aP us v2 t)(hx:∀x∈us,x.1<s.aD.length/\(bK s x.1).tg≠[]/\(∀y∈(bK s x.1).tg,y.length<=2000)/\x.2.length<=2000/\∀n∈x.2,n.length<=2000)(hn:us.length<=1073741824)(ao:Ok s k)(ad:t.bF.length<=4294967296)(aw:t.opn.length<=4294967296)(x:cA×Nat)(g:t.opn.getLast?=some x)(am:x.2<=x.1.aF.length)(al:x.1.aF.length<=4294967296)(ah:∀y∈x.1.aF,y.length<=1073741824):
 Calls prog 143 #[.pointer (some ⟨wk,0,none⟩)] W λe v=>e= .returned (.int .i64 ((fA s fs us t).1:Int))/\lM v L wk st c rb s vp l bf bi ve ef fs aP us v2 (fA s fs us t).2/\Below L W v :=by
 obtain⟨vo,vv,V,qv,f,d,F⟩:=h;obtain⟨qo,q,rfl⟩:∃qo q,V=qo++[q]:=by
  rcases WZ V with e|⟨a,b,e⟩
  ·rw[e] at d;rw[<-d] at g;cases g
  ·exact⟨a,b,by rw[e,aaU]⟩
 rw[T'] at d;simp only[Ug,VL] at d;have ak:x=(q.nd,q.lk):=by rw[<-d] at g;simpa using g.symm
 have D:t.opn.dropLast=qo.map λq=>(q.nd,q.lk):=by rw[<-d];simp
 have af:qo.length+1=t.opn.length:=by rw[<-d];simp
 subst ak;simp only at am al ah;have E:fA s fs us t=if q.lk=q.nd.aF.length then(0,lX t) else dB s fs us {t with opn:=t.opn.dropLast++[(q.nd,q.lk+1)]} (q.nd.aF.getD q.lk []):=by unfold fA;rw[g]
 have z:lX t=⟨cL t.bF q.nd.name 2,t.opn.dropLast,if t.cD.length<=100 then t.cD++[q.nd] else t.cD⟩:=by unfold lX;rw[g]
 have j:=f.opn;rw[TE,TK,T1,Ur] at j;rcases j.2 with⟨-,e⟩|⟨aj,cap,aA,rfl,e2,e3,e4,-⟩
 ·omega
 have H:=f.mX q (by simp);have a5:=gx j (qo.length*6+5) _ (pr qo q 5 _ rfl);have T:=gx j (qo.length*6+2) _ (pr qo q 2 _ rfl);obtain⟨an,cn,G⟩:=H.1.sh;rw[G] at T;have d4:=f.eE.row.cell? (i:=4) rfl;have s0:(0:Int)<=(qo.length:Int):=by omega
 have ap:qo.length<=4294967296:=by omega
 have aC:qo.length+1<=4294967296:=by omega
 have HM:=aB f;have HV:=aB F;have S:=aB D;by_cases o:q.lk=q.nd.aF.length
 ·have u1:((q.lk:Int)==(q.nd.aF.length:Int))=true:=by rw[UR];omega
  have CL:Hid (∀w,Below W.heap.size W w->Calls prog 190 #[.pointer (some ⟨wk,0,none⟩)] w λe v=>e= .returned (.tuple #[])/\lM v L wk st c rb s vp l bf bi ve ef fs aP us v2 (lX t)/\Below L W v):=λw Z=>by refine(Nb q (f.aE Z) ad ap).mono ?_;rintro e w' ⟨rfl,⟨au,av,m'⟩,b'⟩;refine⟨rfl,⟨au,av,qo,_,by rw[z];exact m',by rw[z];exact D.symm,?_⟩,(Z.mono f.lW).trans b'⟩;rw[z,<-F];simp only[TR];split<;>simp
  rw[E,TP o];have HQ:=aB o;clear f F j H e3 d D E z g o af;go_enter func143,ntmps143;go_wp2_with fail
  go_region
  all_goals go_wp2_with fail
  all_goals go_region
  all_goals go_wp2_with (first|(go_at_call 190;refine(CL.u _ (TF _ W).drew.drew).mono ?_;clear CL;rintro e w1 ⟨rfl,p,r⟩;have K:=aB p;have N:=aB r;clear p r)|fail)
  all_goals go_ret
  all_goals exact⟨rfl,K.u,N.u⟩
 ·have u1:((q.lk:Int)==(q.nd.aF.length:Int))=false:=by rw[TQ];omega
  have J:q.lk<q.nd.aF.length:=by omega
  obtain⟨U,fL⟩:=f.RU;have ai:=ua j (qo.length*6+5);rw[E,TJ o];have A:=aB U;have O:=aB fL;have ar:=aB G;clear E z g o f F j H e3 d D af U fL G;have aa:q.nd.aF.getD q.lk []=q.nd.aF[q.lk]:=by simp[J]
  rw[aa];obtain⟨m,M⟩:∃m,m=W.setCell ⟨aj,qo.length*6+5,none⟩ (.int .i64 ((q.lk:Int)+1)):=⟨_,rfl⟩;rw[<-M] at A O;have P:=aB M;clear M;have I:Below m.heap.size m m.drew.drew.drew:=(TF _ m).drew.drew.drew;have CE:=aB (Ea (t:={t with opn:=t.opn.dropLast++[(q.nd,q.lk+1)]}) q.nd.aF[q.lk] k ⟨_,vv,_,qv,A.u.aE I,by rw[T',S.u];rfl,HV.u⟩ hx hn ao (ah _ (TV J)) ad (by simp only;rw[S.u,TE,TR,TK,T1];omega));have B:=A.u.opn;rw[TE,TK,T1,Ur] at B;have R:=gx B (qo.length*6+5) _ (pr qo _ 5 _ rfl);have ae :=gx B (qo.length*6+2) _ (pr qo _ 2 _ rfl);have C:=(A.u.mX {q with lk:=q.lk+1} (by simp)).1;simp only at R ae C;rw[ar.u] at ae C;obtain⟨nb,no,Q⟩:=C.rd;obtain⟨rfl,aH,ab⟩:=Q (by omega);have eS:=ab q.lk q.nd.aF[q.lk] (TH J);unfold aK at eS;have ac:((q.lk+1:Nat):Int)=(q.lk:Int)+1:=by omega
  rw[ac] at R;have t1:(q.lk:Int)<(q.nd.aF.length:Int):=by omega
  have t0:(0:Int)<=(q.lk:Int):=by omega
  have az:IntKind.i64.wrap (q.lk:Int)=(q.lk:Int):=wrap_small t0 (by omega);have aq:=aB ((HM.u.aL O.u).trans (I.mono A.u.lW));clear aa B C Q ab I ac;generalize q.nd.aF[q.lk]=aG at*;go_enter func143,ntmps143;go_wp2_with fail
  go_region
  all_goals go_wp2_with fail
  all_goals go_region
  all_goals go_wp2_with fail
  all_goals rw[<-P.u]
  all_goals clear P
  all_goals clear a5 T d4 ai
  all_goals go_region_law (first|(go_simp;go_at_call 142;refine CE.u.mono ?_;rintro e w1 ⟨rfl,p,r⟩;have K:=aB p;have N:=aB (aq.u.trans r);clear p r)|fail)
  all_goals go_wp2_with fail
  all_goals go_ret
  all_goals exact⟨rfl,K.u,N.u⟩
end
