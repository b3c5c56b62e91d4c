/- . -/
import Derived.Test.YtjelacjggijmfaaGreatDoorYGD2
set_option maxHeartbeats 4000000
set_option maxRecDepth 100000
namespace Go.Proofs.YtjelacjggijmfaaGreatDoor
open Pl Mk Cp Proofs.Tryz
open RowKit MapKept ChangeMaps Maps
theorem Tryz.Gt:(Tryz.prog.info? 265).map (λa=>(a.zero,a.size,a.bytes))=some (some (.pointer none),1,8):=by kernel_rfl
theorem F9 (rb:Nat->Nat)(b:Nat):∀u∈[dh rb b],u.oneCell' =true:=by intro u a;rw[TL] at a;subst a;rfl
theorem zc:∀(a:List ag) (h:0<a.length),a.headD []=a[0]
 |[],h=>by simp at h
 |x::b,_=>rfl
variable {b:List ag}{a:df}
section
variable {W X:ax} {F G:dy} {c:Ad} {rb:Nat->Nat} {s:St}
theorem dz.fr {v:ay}(h:dz W F v b)(a:Fr F G W X):dz X G v b:=h.same a.tn.size (λk d e=>⟨a.tn.block k d (λq=>q e),a.fm k d e⟩)
theorem dz.aE {v:ay}(h:dz W F v b)(a:Below W.heap.size W X):dz X F v b:=h.fr (Fr.aE a)
theorem gO.aE {a:iQ}{v:ay}{b:List Nat}(h:gO W F a v rb b)(f:Below W.heap.size W X)(d:∀k,F k=some a->k<W.heap.size):gO X F a v rb b:=h.same (λk e=>⟨f.block k (d k e),e⟩)
structure xU (W:ax)(F:dy)(c:Ad)(rb:Nat->Nat)(s:St)(i:Nat)(tg:List ag)(j:Nat)(X:ax):Prop where
 db:∃G,bu X G c rb ((tg.take j).foldl (dH i) s)/\Fr F G W X
theorem EB (d:Nat)(s:St)(a:List ag)(b:Nat)(h:b<a.length):(a.take (b+1)).foldl (dH d) s=dH d ((a.take b).foldl (dH d) s) a[b]:=by rw[TW h,VX];rfl
theorem Gq {d:Nat}{name:ag}{v b :ay}{X:ax}(h:bu W F c rb s)(r:d<s.aD.length)(k:bC W c.bt a)(o:a.length<=s.tl)(j:∀n,gO W F (.pK n) ((cJ a n).getD (.slice none 0 0)) rb (s.of n))(i:(cJ a name).getD (.slice none 0 0)=v)(y:s.tl<1073741824)(x:X.ownsRow 0 265 1 b ((s.of name).length+1) ((s.of name).map (dh rb)++[dh rb d]))(f:W.grownBy X v.ownBlock)(w:b.ownBlock=v.ownBlock\/b.ownBlock=some W.heap.size):
 ∃Y,(Instr.mapUpdate 139 (.map (some c.bt)) (.string ⟨name.toArray⟩) b).run prog X= .ok () Y/\∃G,bu Y G c rb (dH d s name)/\Fr F G W Y:=by
 have g:=j name;rw[i] at g;have t:some c.bt≠v.ownBlock:=λe=>by obtain⟨C,z,q⟩:=eN g.1 c.bt e.symm;obtain⟨A,B,m,_⟩:=k;rw[m] at q;cases q
 obtain⟨Y,u,l,p⟩:=(k.kept f t).put (P:=prog) Xy T0 (by unfold maxLen;omega) name b;exact⟨Y,u,_,h.SI r o j i x f w p l⟩
theorem wV (h:bC W c.bt a)(name:ag):(Instr.lookup 139 (.map (some c.bt)) (.string ⟨name.toArray⟩) false).run prog W= .ok ((cJ a name).getD (.slice none 0 0)) W:=by have:=h.look (P:=prog) Xy T0 (wa W) name false;simpa [aK] using this
theorem JU (b:Nat)(a:Rl)(h:bu W F c rb s)(hr:s.aD[b]?=some a)(aU:a.tg≠[])(aX:s.tl+a.tg.length<=1073741824)(av:∀n,(s.of n).length<=s.tl):
 Calls prog 232 #[.pointer (some ⟨c.bb,0,none⟩),dh rb b] W λe W'=>e= .returned (.tuple #[])/\∃G,bu W' G c rb (lu s a.tg b)/\Fr F G W W' :=by
 obtain⟨i0,au,az,aw,aC⟩:=UF Tryz.Gt;have aa:=(TZ.1 hr).1;obtain⟨vp,hB,-⟩:=h.cV;obtain⟨vt,vn,vc,q1,Z,-,-⟩:=h.aD b a hr;rcases Z with⟨-,q⟩|⟨tb,tO,tc,rfl,aP,aN,ac,ay⟩
 ·exact absurd q aU
 have Z:dz W F (.slice (some ⟨tb,tO,none⟩) a.tg.length tc) a.tg:= .inr ⟨tb,tO,tc,rfl,aP,aN,ac,ay⟩;have aA:0<a.tg.length:=Uy.2 aU;have e0:=q1.cell? (i:=0) rfl;have b2:=aG.cell? (i:=2) hB rfl;have f2:=aG.frozen hB 2;unfold aK at b2;have p:=ac 0 a.tg[0] (TH aA);unfold aK at p;rw[Ve] at p;have ar:a.tg.headD []=a.tg[0]:=zc _ aA;have aW:rb b≠c.bb:=λe=>by have:=h.ki b aa;rw[e,h.kB] at this;cases this
 have HH:=aB h;have HQ:=aB q1;have HB:=aB hB;have HS:=aB Z;clear h hB Z ac ay;by_cases D:s.first=[]
 ·have aH:s.first.isEmpty=true:=by rw[D];rfl
  have aj:Hid (lu s a.tg b=a.tg.foldl (dH b) {s with first:=a.tg[0]}):=by show _=_;unfold lu;rw[TP D,ar]
  clear ar D;have hT:=HH.u.QV a.tg[0];unfold aK at hT;have e1:=(aG.eH HQ.u aW 2 (.string ⟨a.tg[0].toArray⟩)).cell? (i:=0) rfl;have T:Hid (xU W F c rb {s with first:=a.tg[0]} b a.tg 0 (W.setCell ⟨c.bb,2,none⟩ (.string ⟨a.tg[0].toArray⟩))):=⟨F,hT⟩;clear hT;generalize a.tg[0]=x at*;go_enter func232,ntmps232;unfold dh;go_wp2_with fail
  go_loopw [25] (λC wr=>∃d:Nat,C= .int .i64 d/\d<=a.tg.length/\Hid (xU W F c rb {s with first:=x} b a.tg d wr)) (λC _=>a.tg.length-aS C)
  case atStart=>exact⟨0,rfl,by omega,T⟩
  case round=>
   clear T e0 b2 f2 p;obtain⟨d,rfl,aJ,E⟩:=hrel;by_cases j:d<a.tg.length
   ·have t1:(d:Int)<a.tg.length:=by omega
    have t0:(0:Int)<=(d:Int):=by omega
    obtain⟨G,i,z⟩:=E.u.db;obtain⟨aR,m,-⟩:=i.cV;have d3:=aG.cell? (i:=3) m rfl;have lb:c.bb<wr.heap.size:=aG.lt m;have ap :=HS.u.fr z;rcases ap with⟨q,-⟩|⟨aV,aL,aF,q,k1,k2,I,-⟩
    ·cases q
    cases q;have p:=I d a.tg[d] (TH j);unfold aK at p;obtain⟨U,l,ad,P⟩:=i.ij;obtain⟨a1,L,a3,a4,a5,a6,a7,a8,J,K⟩:=oW b (a.tg.take d) {s with first:=x};have V:=EB b {s with first:=x} a.tg d j;have r:(a.tg.take d).length=d:=by rw[Um];omega
    have al:∀n,(((a.tg.take d).foldl (dH b) {s with first:=x}).of n).length<=s.tl+d:=λn=>by have:=K av n;rw[r] at this;exact this
    have aI:((a.tg.take d).foldl (dH b) {s with first:=x}).tl=s.tl+d:=by rw[J,r]
    have an:b<((a.tg.take d).foldl (dH b) {s with first:=x}).aD.length:=by rw[L];exact aa
    clear a1 L a3 a4 a5 a6 a7 a8 J K r;have am:=aB V;clear V I;generalize a.tg[d]=g at*;generalize (a.tg.take d).foldl (dH b) {s with first:=x}=S at*;have aM:=al g;have f:=(((TF wr.heap.size wr).drew).alloc ak (.cells #[dh rb b] 265));have aq:=wV (W:=wr.drew) (l.aE (TF _ wr).drew) g;have y:=wV (W:=wr.drew.alloc (.cells #[dh rb b] 265)) (l.aE f) g;obtain⟨v,o⟩:∃v,v=(cJ U g).getD (.slice none 0 0):=⟨_,rfl⟩;rw[<-o] at aq y;have HL:=aB (l.aE f);have ao:=aB (i.aE f);have N:Hid (∀n,gO (wr.drew.alloc (.cells #[dh rb b] 265)) G (.pK n) ((cJ U n).getD (.slice none 0 0)) rb (S.of n)):=λn=>(P n).aE f (λk e=>i.lt e);have O:=aB (o▸(N.u g).1);have ae:=aB (z.trans (Fr.aE f));have HV:=aB o.symm;have M:=aG.bA wr.drew 265 [dh rb b];have ah:=aB M;have aQ:(Instr.lookup 139 (.map (some c.bt)) (.string ⟨g.toArray⟩) false).run prog (wr.alloc (.cells #[.pointer (some ⟨rb b,0,none⟩)] 265)).drew= .ok v (wr.alloc (.cells #[.pointer (some ⟨rb b,0,none⟩)] 265)).drew:=y;clear y;have B:=aB (aG.aE m f);have dY:=aG.cell? (i:=3) B.u rfl;clear l P i z f o M m;go_wp2_with fail
    go_region_held_law (λw'=>w'.cell? ⟨c.bb,3,none⟩=some (.map (some c.bt))) (first|exact d3|exact dY|exact d6|exact d7) (first|(refine pS rfl (.tmp 39) (.tmp 41) 138 rfl 0 265 i0 _ 1 8 ZH au az aw aC rfl (by decide) v (S.of g).length _ (by rfl) O.u ⟨wr.heap.size,0,none⟩ 1 1 [dh rb b] (by rfl) (by rfl) (λd u j=>by rw[ji];exact ah.u.cell? j) (F9 rb b) (by unfold maxLen;omega) (by omega) (TS _) ?_;intro v6 w6 H t Q;obtain⟨w7,aT,ab⟩:=Gq ao.u an HL.u ad N.u HV.u (by omega) H t Q;have d6:=aG.cell? (i:=3) (aG.grown B.u t (kE B.u O.u (by decide))) rfl;obtain⟨G7,w,Y⟩:=ab;obtain⟨aO,R,-⟩:=w.cV;have d7:=aG.cell? (i:=3) R rfl;have af:=aB w;have ai:=aB Y;clear w Y R H t Q)|fail)
    all_goals go_wp2_with fail
    all_goals go_roundw
    all_goals first
     |exact⟨d+1,by go_num,by omega,⟨G7,by rw[am.u];exact af.u,ae.u.trans ai.u⟩⟩
     |(simp only[aS];omega)
   ·have ag:d=a.tg.length:=by omega
    subst ag;have t1:¬(a.tg.length:Int)<a.tg.length:=by omega
    have A:=E.u.db;rw[Us] at A;have HM:=aB A;clear A;go_wp2_with fail
    go_end0
    exact⟨rfl,by rw[aj.u];exact HM.u⟩
 ·have aH:s.first.isEmpty=false:=by rw[<-WH,aal];exact D
  have aj:Hid (lu s a.tg b=a.tg.foldl (dH b) s):=by show _=_;unfold lu;rw[TJ D]
  clear ar D;have T:Hid (xU W F c rb s b a.tg 0 W):=⟨F,HH.u,Fr.refl _ _⟩;go_enter func232,ntmps232;unfold dh;go_wp2_with fail
  go_loopw [25] (λC wr=>∃d:Nat,C= .int .i64 d/\d<=a.tg.length/\Hid (xU W F c rb s b a.tg d wr)) (λC _=>a.tg.length-aS C)
  case atStart=>exact⟨0,rfl,by omega,T⟩
  case round=>
   clear T e0 b2 f2 p;obtain⟨d,rfl,aJ,E⟩:=hrel;by_cases j:d<a.tg.length
   ·have t1:(d:Int)<a.tg.length:=by omega
    have t0:(0:Int)<=(d:Int):=by omega
    obtain⟨G,i,z⟩:=E.u.db;obtain⟨aR,m,-⟩:=i.cV;have d3:=aG.cell? (i:=3) m rfl;have lb:c.bb<wr.heap.size:=aG.lt m;have ap :=HS.u.fr z;rcases ap with⟨q,-⟩|⟨aV,aL,aF,q,k1,k2,I,-⟩
    ·cases q
    cases q;have p:=I d a.tg[d] (TH j);unfold aK at p;obtain⟨U,l,ad,P⟩:=i.ij;obtain⟨a1,L,a3,a4,a5,a6,a7,a8,J,K⟩:=oW b (a.tg.take d) s;have V:=EB b s a.tg d j;have r:(a.tg.take d).length=d:=by rw[Um];omega
    have al:∀n,(((a.tg.take d).foldl (dH b) s).of n).length<=s.tl+d:=λn=>by have:=K av n;rw[r] at this;exact this
    have aI:((a.tg.take d).foldl (dH b) s).tl=s.tl+d:=by rw[J,r]
    have an:b<((a.tg.take d).foldl (dH b) s).aD.length:=by rw[L];exact aa
    clear a1 L a3 a4 a5 a6 a7 a8 J K r;have am:=aB V;clear V I;generalize a.tg[d]=g at*;generalize (a.tg.take d).foldl (dH b) s=S at*;have aM:=al g;have f:=(((TF wr.heap.size wr).drew).alloc ak (.cells #[dh rb b] 265));have aq:=wV (W:=wr.drew) (l.aE (TF _ wr).drew) g;have y:=wV (W:=wr.drew.alloc (.cells #[dh rb b] 265)) (l.aE f) g;obtain⟨v,o⟩:∃v,v=(cJ U g).getD (.slice none 0 0):=⟨_,rfl⟩;rw[<-o] at aq y;have HL:=aB (l.aE f);have ao:=aB (i.aE f);have N:Hid (∀n,gO (wr.drew.alloc (.cells #[dh rb b] 265)) G (.pK n) ((cJ U n).getD (.slice none 0 0)) rb (S.of n)):=λn=>(P n).aE f (λk e=>i.lt e);have O:=aB (o▸(N.u g).1);have ae:=aB (z.trans (Fr.aE f));have HV:=aB o.symm;have M:=aG.bA wr.drew 265 [dh rb b];have ah:=aB M;have aQ:(Instr.lookup 139 (.map (some c.bt)) (.string ⟨g.toArray⟩) false).run prog (wr.alloc (.cells #[.pointer (some ⟨rb b,0,none⟩)] 265)).drew= .ok v (wr.alloc (.cells #[.pointer (some ⟨rb b,0,none⟩)] 265)).drew:=y;clear y;have B:=aB (aG.aE m f);have dY:=aG.cell? (i:=3) B.u rfl;clear l P i z f o M m;go_wp2_with fail
    go_region_held_law (λw'=>w'.cell? ⟨c.bb,3,none⟩=some (.map (some c.bt))) (first|exact d3|exact dY|exact d6|exact d7) (first|(refine pS rfl (.tmp 39) (.tmp 41) 138 rfl 0 265 i0 _ 1 8 ZH au az aw aC rfl (by decide) v (S.of g).length _ (by rfl) O.u ⟨wr.heap.size,0,none⟩ 1 1 [dh rb b] (by rfl) (by rfl) (λd u j=>by rw[ji];exact ah.u.cell? j) (F9 rb b) (by unfold maxLen;omega) (by omega) (TS _) ?_;intro v6 w6 H t Q;obtain⟨w7,aT,ab⟩:=Gq ao.u an HL.u ad N.u HV.u (by omega) H t Q;have d6:=aG.cell? (i:=3) (aG.grown B.u t (kE B.u O.u (by decide))) rfl;obtain⟨G7,w,Y⟩:=ab;obtain⟨aO,R,-⟩:=w.cV;have d7:=aG.cell? (i:=3) R rfl;have af:=aB w;have ai:=aB Y;clear w Y R H t Q)|fail)
    all_goals go_wp2_with fail
    all_goals go_roundw
    all_goals first
     |exact⟨d+1,by go_num,by omega,⟨G7,by rw[am.u];exact af.u,ae.u.trans ai.u⟩⟩
     |(simp only[aS];omega)
   ·have ag:d=a.tg.length:=by omega
    subst ag;have t1:¬(a.tg.length:Int)<a.tg.length:=by omega
    have A:=E.u.db;rw[Us] at A;have HM:=aB A;clear A;go_wp2_with fail
    go_end0
    exact⟨rfl,by rw[aj.u];exact HM.u⟩
end
