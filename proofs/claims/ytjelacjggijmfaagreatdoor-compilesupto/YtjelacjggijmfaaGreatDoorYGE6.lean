/- . -/
import Derived.Test.YtjelacjggijmfaaGreatDoorYGDA
set_option maxHeartbeats 8000000
set_option maxRecDepth 100000
namespace Go.Proofs.YtjelacjggijmfaaGreatDoor
open Pl Mk Cp Proofs.Tryz
open RowKit MapKept ChangeMaps Maps
theorem N_ (s:St)(fs:List aI)(a:List Nat)(b:Nat)(d:b<a.length):cB s fs (a.take (b+1))=if rF s fs a[b]=true then cB s fs (a.take b)++[(a[b],rZ s a[b])] else cB s fs (a.take b):=by
 unfold cB;rw[TW d,VQ];split
 ·next h=>simp[h]
 ·next h=>simp[h]
theorem Ge (s:St)(fs:List aI)(a:List Nat):(cB s fs a).length<=a.length:=by unfold cB;rw[TR];exact W6 _ _
theorem GA (a:ag->Bool)(l:List ag)(b:Nat):((l.take b).filter a).length<=l.length:=TT (W6 _ _) (by rw[Um];omega)
theorem JZ (a:ag)(w:ax)(b:c_ w)(g:a.length<=4294967200):Calls prog 140 #[.string ⟨a.toArray⟩,.string ⟨#[37]⟩] w λe d=>e= .returned (.bool (cS a))/\d =w:=by obtain⟨m,f⟩:=b;exact Any.strings_Contains Tryz.Ht ⟨a.toArray⟩ ⟨#[37]⟩ m w (by show a.length<_;omega) f
section
variable {W X:ax} {wk:Nat} {c:Ad} {rb:Nat->Nat} {s:St} {vp:ay} {l:df} {bf bi:Nat} {ve:ay} {ef:List bL} {fs:List aI} {aP:Int} {v2 v3 v4 v5:ay}
theorem L_ (f:List Nat)(v:ay)(h:mV W wk c rb s vp l bf bi ve ef fs aP v2 v3 v4 v5)(hv:mr W v (f.map rb))(hx:∀i∈f,i<s.aD.length/\(bK s i).nd.length<=2000/\∀n∈(bK s i).nd,n.length<=2000)(hn:f.length<=1000000):
 Calls prog 91 #[.pointer (some ⟨wk,0,none⟩),v] W λe W'=>∃u,e= .returned u/\kz W' rb u (cB s fs f)/\Below W.heap.size W W' :=by
 obtain⟨i0,au,ap,aw,aA⟩:=UF Tryz.kJ;obtain⟨j0,a7,a6,a4,aY⟩:=UF Tryz.QC;obtain⟨a,cap,rfl⟩:=hv.sh;obtain⟨b,bh,ad⟩:=hv.rd;rw[TR] at ad⊢;have HB:=aB ad;have HH:=aB h;have HX:=aB hx;have am:Hid (oL W rb (cB s fs (f.take 0)) (.slice none 0 0) W):=⟨TF _ _,[],rfl,Uk _ _ _ _,λk ba x J=>by cases J⟩;clear h hv ad hx;go_enter func91,ntmps91;go_wp2_with fail
 go_loopw [5,14] (λu y wr=>∃d:Nat,y= .int .i64 d/\d<=f.length/\Hid (oL W rb (cB s fs (f.take d)) u wr)) (λ_ y _=>f.length-aS y)
 case atStart=>exact⟨0,rfl,by omega,am⟩
 case round=>
  clear am;obtain⟨d,rfl,bc,A⟩:=hrel;by_cases o:d<f.length
  ·have t1:(d:Int)<f.length:=by omega
   have t0:(0:Int)<=(d:Int):=by omega
   have hb:=A.u.aL;have hM:=HH.u.aE hb;obtain⟨rfl,aW,hr⟩:=HB.u (by omega);have cn:=(hr.aL hb aW) d (rb f[d]) (by rw[UG,TH o];rfl);obtain⟨x1,x2,x3⟩:=HX.u f[d] (TV o);have ai:=aB (N_ s fs f d o);have bb:=TT (Ge s fs (f.take d)) (by rw[Um];omega:(f.take d).length<=f.length);obtain⟨vt,vn,vc,r1,-,r3,r4⟩:=hM.bm.aD f[d] x1;have aQ:=aB r4;have aX:Hid (rZ s f[d]=(bK s f[d]).nd.filter cS):=rfl;have aJ:Hid (xJ s f[d]=(bK s f[d]).nd.filter (λn=> !cS n)):=rfl;have aq:Hid (rF s fs f[d]=(decide (0<(bK s f[d]).cs.length)&&(xJ s f[d]).all (fU fs (je s) []))):=rfl;generalize f[d]=i at*;obtain⟨an,bo,rfl⟩:=r3.sh;obtain⟨ac,bj,rfl⟩:=r4.sh;obtain⟨nb,no,aF⟩:=r3.rd;have e1:=r1.cell? (i:=1) rfl;have af:=aB r1;have U:=aB hM;have ae:=aB aF;have aC:qH wr (bK s i).nd 0 (.slice none 0 0) (.slice none 0 0) wr:=⟨TF _ _,Uk _ _ _ _,Uk _ _ _ _,λk e=>by cases e⟩;have S:=aB aC;generalize cB s fs (f.take d)=us at*;generalize (bK s i).nd=g at*;generalize (bK s i).cs=L at*;clear hr r1 r3 r4 hM aF aC hb;go_wp2_with fail
   obtain⟨K,ar⟩:∃K,K=wr:=⟨_,rfl⟩;rw[<-ar] at S A U af ae aQ;go_loopw [8,9,23] (λu8 u9 y wi=>∃q:Nat,y= .int .i64 q/\q<=g.length/\Hid (qH K g q u8 u9 wi)) (λ_ _ y _=>g.length-aS y)
   case atStart=>exact⟨0,rfl,by omega,by rw[ar] at S⊢;exact S⟩
   case round=>
    clear S;obtain⟨q,rfl,bg,m⟩:=hrel;by_cases O:q<g.length
    ·have s1:(q:Int)<g.length:=by omega
     have s0:(0:Int)<=(q:Int):=by omega
     obtain⟨rfl,aZ,ao⟩:=ae.u (by omega);have cq:=(ao.aL m.u.aL aZ) q g[q] (TH O);unfold aK at cq;have be:=x3 g[q] (TV O);have B:=aB (JZ g[q] wr (U.u.fh.aE m.u.aL) (by omega));have l8:=GA cS g q;have l9:=GA (λn=> !cS n) g q;have bd:=m.u.aL.size;have p:=(TF wr.heap.size wr).alloc ak (.cells #[.string ⟨g[q].toArray⟩] 9);have Q:=aB (aG.bA wr 9 [.string ⟨g[q].toArray⟩]);have a1:=aB (bT (W:=wr.alloc (.cells #[.string ⟨g[q].toArray⟩] 9)) m.u.gu (λk hk=>p.block k (m.u.gu.lt k hk).2));have aV:=aB (bT (W:=wr.alloc (.cells #[.string ⟨g[q].toArray⟩] 9)) m.u.ot (λk hk=>p.block k (m.u.ot.lt k hk).2));have ag:=aB (λJ v6 Z ab hg hf=>m.u.pM (v6:=v6) (Z:=Z) O J p ab hg hf);have ah:=aB (λJ v6 Z ab hg hf=>m.u.no (v6:=v6) (Z:=Z) O J p ab hg hf);clear ao p;generalize g[q]=nq at*;cases z:cS nq with
     |true=>
      rw[z] at B;have a5:=aB (ag.u z);clear ag ah z;go_wp2_with (first|(go_at_call 140;refine B.u.mono ?_;clear B;rintro e w1 ⟨rfl,G⟩;rw[G];clear G w1)|(at_builtin;refine Uu _ rfl (.tmp 29) (.tmp 31) 30 rfl K.heap.size 9 i0 (.string ⟨#[]⟩) 1 16 UC au ap aw aA rfl (by decide) _ _ _ rfl a1.u ⟨wr.heap.size,0,none⟩ 1 1 [.string ⟨nq.toArray⟩] rfl (by simp) (λd u o=>by rw[ji];exact Q.u.cell? o) (by intro u r;rw[TL] at r;subst r;rfl) (by unfold maxLen;omega) (by omega) (by rw[TM];omega) ?_;intro v6 T t w _ M;have aa:=aB (a5.u v6 T t w M);clear t w M)|fail)
      go_roundw
      case rel=>exact⟨q+1,by go_num,by omega,aa⟩
      case measure=>simp only[aS];omega
     |false=>
      rw[z] at B;have a3:=aB (ah.u z);clear ag ah z;go_wp2_with (first|(go_at_call 140;refine B.u.mono ?_;clear B;rintro e w1 ⟨rfl,G⟩;rw[G];clear G w1)|(at_builtin;refine Uu _ rfl (.tmp 33) (.tmp 35) 30 rfl K.heap.size 9 i0 (.string ⟨#[]⟩) 1 16 UC au ap aw aA rfl (by decide) _ _ _ rfl aV.u ⟨wr.heap.size,0,none⟩ 1 1 [.string ⟨nq.toArray⟩] rfl (by simp) (λd u o=>by rw[ji];exact Q.u.cell? o) (by intro u r;rw[TL] at r;subst r;rfl) (by unfold maxLen;omega) (by omega) (by rw[TM];omega) ?_;intro v6 T t w _ M;have aa:=aB (a3.u v6 T t w M);clear t w M)|fail)
      go_roundw
      case rel=>exact⟨q+1,by go_num,by omega,aa⟩
      case measure=>simp only[aS];omega
    ·have a':q=g.length:=by omega
     subst a';have s1:¬(g.length:Int)<g.length:=by omega
     obtain⟨D,Y,V,-⟩:=m.u;rw[Us] at Y V;have T8:=fF.bI Y;have T9:=fF.bI V;obtain⟨a8,c8,rfl⟩:=gL Y;obtain⟨a9,c9,rfl⟩:=gL V;obtain⟨b9,a0,az⟩:=T9.rd;have e2:=(af.u.aE D).cell? (i:=2) rfl;have aj:=aB (A.u.aE D);have aO:=aB T8;have bp:=W6 cS g;have bk:=W6 (λn=> !cS n) g;have N:=aB (BP (g.filter λn=> !cS n) [] a9 c9 b9 a0 (U.u.aE D).at az (by omega) (λn hn=>by have h1:=x3 n (Vt.1 hn).1;exact⟨by omega,by simp only[T1,Nat.mul_zero];omega⟩));have E:Hid (rF s fs i=(decide (0<L.length)&&(g.filter λn=> !cS n).all (fU fs (je s) []))):=by show _=_;rw[<-aJ.u];exact aq.u
     generalize (g.filter λn=> !cS n).all (fU fs (je s) [])=al at*;generalize (g.filter λn=> !cS n).length=n9 at*;have bn:=aB D;clear D Y V T8 T9 az m aq U af ae A;by_cases I:0<L.length
     ·have z1:(0:Int)<(L.length:Int):=by omega
      have z2:decide ((0:Int)<(L.length:Int))=true:=by simpa using z1
      rw[Uz I,Vz] at E;cases al with
      |true=>
       have j:=ai.u;rw[TP E.u] at j;have H:=aB j;clear j I;go_wp2_with (first|(go_at_call 141;refine N.u.mono ?_;clear N;rintro e F ⟨rfl,C⟩;have p:=(TF F.heap.size F).alloc ak (.cells #[.pointer (some ⟨rb i,0,none⟩),.slice a8 (g.filter cS).length c8] 275);have P:=(aj.u.aE C).aE p;obtain⟨ps,p1,p2,p3⟩:=P.row;have aT:=aB P;have av:=aB p2;have aR:=aB p3;have aU:=aB ((aO.u.bl (Bl.aL C)).bl (Bl.aL p));have Q:=aB (aG.bA F 275 [.pointer (some ⟨rb i,0,none⟩),.slice a8 (g.filter cS).length c8]);have a_:=P.aL.size;clear C p P p2 p3)|(at_builtin;refine Uu _ rfl (.tmp 49) (.tmp 53) 190 rfl W.heap.size 275 j0 (.agg #[.pointer none,.slice none 0 0]) 2 32 underlying190 a7 a6 a4 aY rfl (by decide) _ us.length _ rfl av.u ⟨F.heap.size,0,none⟩ 1 1 [.pointer (some ⟨rb i,0,none⟩),.slice a8 (g.filter cS).length c8] rfl (by simp) (λd u o=>by rw[ji];exact Q.u.cell? o) (by intro u r;simp only[Ue,Vl,Xm] at r;rcases r with e|e<;>(subst e;rfl)) (by unfold maxLen;omega) (by omega) a_ ?_;intro v6 T t w _ _;have aH:=aB (aT.u.push (i:=i) p1 av.u aR.u aU.u t w);clear t w)|fail)
       go_roundw
       case rel=>exact⟨d+1,by go_num,by omega,by rw[H.u,aX.u];exact aH⟩
       case measure=>simp only[aS];omega
      |false=>
       have j:=ai.u;rw[TJ (by rw[E.u];simp)] at j;have H:=aB j;clear j I;go_wp2_with (first|(go_at_call 141;refine N.u.mono ?_;clear N;rintro e F ⟨rfl,C⟩;have aN:=aB (aj.u.aE C);clear C)|fail)
       go_roundw
       case rel=>exact⟨d+1,by go_num,by omega,by rw[H.u];exact aN⟩
       case measure=>simp only[aS];omega
     ·have z1:¬(0:Int)<(L.length:Int):=by omega
      rw[UA I,We] at E;have j:=ai.u;rw[TJ (by rw[E.u];simp)] at j;have H:=aB j;clear j I N;go_wp2_with fail
      go_roundw
      case rel=>exact⟨d+1,by go_num,by omega,by rw[H.u];exact aj⟩
      case measure=>simp only[aS];omega
  ·have aM:d=f.length:=by omega
   subst aM;have t1:¬(f.length:Int)<f.length:=by omega
   have R:=A.u;rw[Us] at R;have HP:=aB R.b_;have a2:=aB R.aL;clear R A;go_wp2_with fail
   go_ret;exact⟨_,rfl,HP.u,a2.u⟩
end
