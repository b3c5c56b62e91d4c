/- . -/
import Derived.Test.YtjelacjggijmfaaGreatDoorYSR4
set_option maxHeartbeats 16000000
set_option maxRecDepth 20000
namespace Go.Proofs.YtjelacjggijmfaaGreatDoor
open Pl Mk Cp Proofs.Tryz
open RowKit
theorem Tryz.zw:(Tryz.prog.info? 4).map (λa=>(a.zero,a.size,a.bytes))=some (some (.bool false),1,1):=by kernel_rfl
theorem Tryz.w_:(Tryz.prog.info? 3).map (λa=>(a.zero,a.size,a.bytes))=some (some (.int .i64 0),1,8):=by kernel_rfl
structure Ox (P:Prop)(e:Ending):Prop where
 out:∃r:Bool,e= .returned (.bool r)/\(r=true↔P)
variable {d:Nat->Int}
theorem mc.drew {w:ax}{b N M L:Nat}{v:ay}{s:az}{f:Nat->Bool}{X:ax}(h:mc w b N M L v s f d X):mc w b N M L v s f d X.drew:=h.aE (TF _ _).drew
variable {a b f:Nat}
theorem NB {c:ag}(d:Pl.cd c a):1<=Pl.opAt c a/\Pl.opAt c a<=8:=by have b:=d.1;generalize Pl.opAt c a=op at*;have e:¬(op=0\/9<=op):=λh=>b (by unfold ee;repeat rw[TJ (by omega)]);omega
theorem P' {c:ag}{m h to:Nat}{A:Aw}(H:eF c m a a h d A)(j:a<c.length)(s:Pl.cd c a)(q:iD m (a_ c a))(g:Pl.opAt c a=6)(o:(a_ c a).next=f)(n:(a_ c a).next+(a_ c a).first=to)(i:b=Pl.ey 6 h)(r:1<=h)(k:fa c 0 to)(u:¬(0<=d to/\d to≠(b:Int)))(p:b<=16)(l:¬(0<=iO d to (b:Int) f/\iO d to (b:Int) f≠(b:Int))):eF c m (a+1) f b (iO (iO d to (b:Int)) f (b:Int)) (Pl.del (gz A (a_ c a) h) f):=by
 have t :b=Pl.ey (Pl.opAt c a) h:=by rw[g];exact i
 clear i;subst t o n;have e:jl c a h d=iO d ((a_ c a).next+(a_ c a).first) (Pl.ey (Pl.opAt c a) h:Nat):=by unfold jl;rw[TP g]
 have:=H.step j s q (by rw[g];exact r) p (λ_=>⟨k,u⟩) (by rw[e];exact l);rwa [e] at this
theorem Ak {c:ag}{m h op:Nat}{A:Aw}(H:eF c m a a h d A)(i:a<c.length)(s:Pl.cd c a)(q:iD m (a_ c a))(j:Pl.opAt c a=op)(o:(a_ c a).next=b)(l:f=Pl.ey op h)(g:op≠6)(r:Pl.iK op<=h)(p:f<=16)(n:¬(0<=d b/\d b≠(f:Int))):eF c m (a+1) b f (iO d b (f:Int)) (Pl.del (gz A (a_ c a) h) b):=by
 subst j l o;have e:jl c a h d=d:=by unfold jl;rw[TJ g]
 have:=H.step i s q r p (λk=>absurd k g) (by rw[e];exact n);rwa [e] at this
theorem JX (s:az)(b m cap:Nat)(a:Option Addr)(w:ax)(hs:s.size<=8388608)(U:aG w b 97 [.slice a m cap,.string s]):
 Calls prog 68 #[.pointer (some ⟨b,0,none⟩)] w λe w'=>Ox (Pl.Spec s.data.toList m 0 0 (λ_=>none)) e/\Below w.heap.size w w' :=by
 have a1:∀w,(Instr.makeSlice 82 (.int .i64 ((s.size:Int)+1)) (.int .i64 ((s.size:Int)+1))).run prog w= .ok (.slice (some ⟨w.heap.size,0,none⟩) (s.size+1) (s.size+1)) (w.alloc (.cells (madeCells #[.bool false] (s.size+1)) 4)):=XE (P:=prog) 82 4 (.bool false) 1 ZT Tryz.zw rfl .i64 .i64 (s.size+1) (by omega) (by omega);have an:∀w,(Instr.makeSlice 41 (.int .i64 ((s.size:Int)+1)) (.int .i64 ((s.size:Int)+1))).run prog w= .ok (.slice (some ⟨w.heap.size,0,none⟩) (s.size+1) (s.size+1)) (w.alloc (.cells (madeCells #[.int .i64 0] (s.size+1)) 3)):=XE (P:=prog) 41 3 (.int .i64 0) 8 Wb Tryz.w_ rfl .i64 .i64 (s.size+1) (by omega) (by omega);have a4:=U.lt;have c1:=U.cell 1 (by simp);simp only[TG,TI] at c1;have aM:Hid (py w b w.heap.size s.size (.slice a m cap) s (λ_=>false) (w.alloc (.cells (madeCells #[.bool false] (s.size+1)) 4))):=⟨U.alloc _,kW.jV w s.size,aj w _,a4,TD _⟩;have aQ:=aB an;clear U an;go_enter func68,ntmps68;go_wp2_with fail
 clear a1;go_loopw [4] (λeD wr=>∃(c:Nat) (f:Nat->Bool),eD= .int .i64 c/\c<=s.size/\Hid (ny s.data.toList m c f)/\Hid (py w b w.heap.size s.size (.slice a m cap) s f wr)) (λeD _=>s.size-aS eD)
 case atStart=>exact⟨0,λ_=>false,rfl,TS _,ny.start _ _,aM⟩
 case round=>
  obtain⟨c,f,rfl,af,hP,o⟩:=hrel;have aU:b≠w.heap.size:=by omega
  have aq:=o.u.dS;have Y:=aq.cell 1 (by simp);simp only[TG,TI] at Y;by_cases O:c<s.size
  ·have b0:=o.u.nF.cell c af;have g0:=aG.frozen o.u.nF c;have ho:=oj s c O;have aa:=uN s.data.toList c;have CS:=aB (λw=>oa (Pl.opAt s.data.toList c) aa w);have h8:s[c].toNat<256:=by rw[<-ho];exact aa
   have HO:=aB ho;have X:=o.u.mark c;have ba:ee (Pl.opAt s.data.toList c)<=5:=by
    generalize Pl.opAt s.data.toList c=op;unfold ee
    repeat (first|omega|split)
   have t:=aB X;have aw :Hid (c<s.data.toList.length):=by show _<_;rw[<-Uf];exact O
   clear ho aa aq o X;generalize ae:Pl.opAt s.data.toList c=op at*;have p:=aB ae;generalize hz:ee op=z at*;have HZ:=aB hz;clear ae hz;go_wp2_with fail
   rw[<-HO.u];refine(CS.u _).mono ?_;rintro e w1 ⟨rfl,R⟩;have ay:=t.u.aE R;have d2:=ay.dS.cell 1 (by simp);simp only[TG,TI] at d2;have J:=aB ay;clear R CS ay;by_cases L:z≠0/\c+z<=s.size
   ·have au:Pl.cd s.data.toList c:=by
     unfold Pl.cd;rw[p.u,HZ.u,<-Uf];exact L
    have CO:=aB (Kf s b m cap a c w1 O hs au J.u.dS);obtain⟨a8,a2⟩:=L;have N:=aB au;have t1:((z:Int)==0)=false:=by rw[TQ];omega
    clear au;go_wp2_with fail
    refine CO.u.mono ?_;rintro e w2 ⟨⟨l,rfl,U⟩,ac⟩;have K:=aB (J.u.aE ac);clear ac CO;cases l with
    |false=>
     have j:=aB (hP.u.gS aw.u (λe=>by have:=U.2 e.2;cases this));clear U;go_wp2_with fail
     go_ret;exact⟨⟨false,rfl,by simpa using j.u⟩,K.u.aL⟩
    |true=>
     have j:=aB (hP.u.next aw.u N.u (U.1 rfl));rw[p.u,HZ.u] at j;clear U;go_wp2_with fail
     go_roundw
     case rel=>exact⟨c+z,_,by go_num,a2,j,K⟩
     case measure=>simp only[aS];omega
   ·have j:=aB (hP.u.gS aw.u (λe=>L (by have:=e.1;unfold Pl.cd at this;rw[p.u,HZ.u,<-Uf] at this;exact this)));by_cases aF:z=0
    ·have t1:((z:Int)==0)=true:=by rw[UR];omega
     clear L aF;go_wp2_with fail
     go_ret;exact⟨⟨false,rfl,by simpa using j.u⟩,J.u.aL⟩
    ·have t1:((z:Int)==0)=false:=by rw[TQ];omega
     have t2:(s.size:Int)<(c:Int)+(z:Int):=by omega
     clear L aF;go_wp2_with fail
     go_ret;exact⟨⟨false,rfl,by simpa using j.u⟩,J.u.aL⟩
  ·have aN:¬c<s.data.toList.length:=by rw[<-Uf];exact O
   obtain⟨R,ac⟩:=hP.u.done aN;rw[<-Uf] at R ac;have am:=aB R;have aV:=aB ac;have b0:=o.u.nF.cell s.size ak;have g0:=aG.frozen o.u.nF s.size;have t:=aB (o.u.mark s.size);have an:=aQ.u;have bd:w.heap.size<wr.heap.size:=aG.lt o.u.nF;clear aN R ac aq o hP;go_wp2_with fail
   generalize nJ f s.size=F at*;have aC:Hid (mc w b w.heap.size wr.heap.size s.size (.slice a m cap) s F (λ_=>0) ((wr.setCell ⟨w.heap.size,s.size,none⟩ (.bool true)).alloc (.cells (madeCells #[.int .i64 0] (s.size+1)) 3))):=by
    have ag:=t.u;have aJ:(wr.setCell ⟨w.heap.size,s.size,none⟩ (.bool true)).heap.size=wr.heap.size:=by simp[World.setCell]
    have hi:=nE.jV (wr.setCell ⟨w.heap.size,s.size,none⟩ (.bool true)) s.size;rw[aJ] at hi;exact⟨⟨ag.dS.alloc _,aG.alloc ag.nF _,ag.aL.alloc (by rw[aJ];omega) _,ag.hb,ag.hN⟩,hi,by omega,by omega⟩
   generalize ((wr.setCell ⟨w.heap.size,s.size,none⟩ (.bool true)).alloc (.cells (madeCells #[.int .i64 0] (s.size+1)) 3))=V at*;generalize a3:wr.heap.size=M at*;clear t b0 g0 Y an a3 aQ;go_loopw [8] (λap a5=>∃(k:Nat) (g:Nat->Int),ap= .int .i64 k/\1<=k/\k<=s.size+1/\Hid (∀q,g q=if 1<=q/\q<k then-1 else 0)/\Hid (mc w b w.heap.size M s.size (.slice a m cap) s F g a5)) (λap _=>s.size+1-aS ap)
   case atStart=>exact⟨1,λ_=>0,rfl,TD _,by omega,λq=>(TJ (by omega)).symm,aC⟩
   case round=>
    obtain⟨k,g,rfl,bc,a6,hg,o⟩:=hrel;by_cases hk:k<s.size+1
    ·have b0:=o.u.mZ.cell k (by omega);have g0:=aG.frozen o.u.mZ k;have t:=aB (o.u.put k (-1));have a0:Hid (∀q,iO g k (-1) q=if 1<=q/\q<k+1 then-1 else 0):=by
      intro q;unfold iO;rw[hg.u q];by_cases e:q=k
      ·rw[TP e,TP (by omega)]
      ·rw[TJ e];by_cases e2:1<=q/\q<k
       ·rw[TP e2,TP (by omega)]
       ·rw[TJ e2,TJ (by omega)]
     clear o hg;go_wp2_with fail
     go_roundw
     case rel=>exact⟨k+1,_,by go_num,by omega,by omega,a0,t⟩
     case measure=>simp only[aS];omega
    ·have aD:Hid (eF s.data.toList m 0 0 0 g (λ_=>none)):=by
      refine eF.start _ _ g (by rw[hg.u];exact TJ (by omega)) (λq h1 h2=> ?_);rw[<-Uf] at h2;rw[hg.u];exact TP (by omega)
     have Y:=o.u.db.dS.cell 1 (by simp);simp only[TG,TI] at Y;clear hg aC aM O af c1;go_wp2_with fail
     go_loopw [4] (λeD aW=>∃(c av h:Nat) (g:Nat->Int) (A:Aw),eD= .int .i64 c/\c<=s.size/\Hid (eF s.data.toList m c av h g A)/\Hid (mc w b w.heap.size M s.size (.slice a m cap) s F g aW)) (λeD _=>s.size-aS eD)
     case atStart=>exact⟨0,0,0,g,_,rfl,TS _,aD,o⟩
     case round=>
      clear aD o Y;obtain⟨c,av,h,g,A,rfl,af,S,o⟩:=hrel;have Y:=o.u.db.dS.cell 1 (by simp);simp only[TG,TI] at Y;by_cases O:c<s.size
      ·have b0:=o.u.db.nF.cell c af;cases I:F c with
       |false=>
        have i:=aB (S.u.skip (λe=>by have:=(am.u c).2 e;rw[I] at this;cases this));rw[I] at b0;clear S;go_wp2_with fail
        go_roundw
        case rel=>exact⟨c+1,av,h,g,A,by go_num,by omega,i,o⟩
        case measure=>simp only[aS];omega
       |true=>
        have ao:=(am.u c).1 I;obtain rfl:=(S.u.eD ao).symm;obtain⟨L,aI⟩:=aV.u c ao O;have D:=aB S.u;rw[I] at b0;have i0:=o.u.mZ.cell c af;rw[S.u.vd] at i0;have a9:=S.u.kl;have ho:=oj s c O;have aa:=uN s.data.toList c;have CS:=aB (λw=>oa (Pl.opAt s.data.toList c) aa w);have h8:s[c].toNat<256:=by rw[<-ho];exact aa
        have HO:=aB ho;have N:=aB L;have ai:=aB aI;have E:Hid (c<s.data.toList.length):=by show _<_;rw[<-Uf];exact O
        have a':=NB L;have aH:c+ee (Pl.opAt s.data.toList c)<=s.size:=by have:=L.2;rw[<-Uf] at this;exact this
        have bb:ee (Pl.opAt s.data.toList c)≠0:=L.1;have W:Hid ((a_ s.data.toList c).next=c+ee (Pl.opAt s.data.toList c)):=rfl;obtain⟨l,aK⟩:∃l,l=Pl.ey (Pl.opAt s.data.toList c) h:=⟨_,rfl⟩;have C:=aB aK;have aT:Hid (Pl.opAt s.data.toList c=6->(a_ s.data.toList c).first=two s.data.toList (c+1)/\ee (Pl.opAt s.data.toList c)=3):=by intro e;unfold a_;rw[e];exact⟨rfl,rfl⟩
        clear S ao I ho aa L aI aK;generalize ae:Pl.opAt s.data.toList c=op at*;have p:=aB ae;generalize hz:ee op=z at*;have HZ:=aB hz;clear ae hz;go_wp2_with fail
        rw[<-HO.u];refine(CS.u _).mono ?_;rintro e w1 ⟨rfl,R⟩;have X:=o.u.aE R;have d2:=X.db.dS.cell 1 (by simp);simp only[TG,TI] at d2;have i1:=X.mZ.cell (c+z) aH;have f1:=aG.frozen X.mZ (c+z);have t:=aB X;clear R CS X b0 i0 Y o;by_cases be:op<=4
        ·have t4:(op:Int)<=4:=by omega
         have Q:op≠6:=by omega
         have d:Hid ((l:Int)=(h:Int)+1):=by show _=_;have:=C.u;unfold Pl.ey Pl.iK xh at this;rw[TJ (by omega),TJ (by omega),TP (by omega)] at this;omega
         have Z:Hid (jl s.data.toList c h g (a_ s.data.toList c).next=g (c+z)):=by show _=_;unfold jl;rw[p.u,TJ Q,W.u]
         have G:=aB (Ak D.u E.u N.u ai.u p.u W.u C.u Q (by unfold Pl.iK;rw[TJ (by omega),TJ Q];omega));generalize g (c+z)=y at*;by_cases kl:(16:Int)<(h:Int)+1
         ·have j:=aB (D.u.Nt E.u (by rw[p.u,<-C.u];have:=d.u;omega));go_wp2_with fail
          go_ret;exact⟨⟨false,rfl,by simpa using j.u⟩,t.u.db.aL⟩
         ·have r:l<=16:=by have:=d.u;omega
          by_cases H:0<=y
          ·by_cases n:y=(h:Int)+1
           ·have T:(y !=(h:Int)+1)=false:=by rw[Uv];exact n
            have i:=aB (G.u r (by rw[d.u];intro e;exact e.2 n));rw[d.u] at i;have B:=aB ((t.u.put (c+z) ((h:Int)+1)));clear r;go_wp2_with fail
            go_roundw
            case rel=>exact⟨c+1,c+z,l,_,_,by go_num,by omega,i,B⟩
            case measure=>simp only[aS];omega
           ·have T:(y !=(h:Int)+1)=true:=by rw[UY];exact n
            have j:=aB (D.u.uf E.u N.u (by rw[Z.u,p.u,<-C.u,d.u];exact⟨H,n⟩));clear n;go_wp2_with fail
            go_ret;exact⟨⟨false,rfl,by simpa using j.u⟩,t.u.db.aL⟩
          ·have i:=aB (G.u r (by rw[d.u];intro e;exact H e.1));rw[d.u] at i;have B:=aB ((t.u.put (c+z) ((h:Int)+1)));clear r;go_wp2_with fail
           go_roundw
           case rel=>exact⟨c+1,c+z,l,_,_,by go_num,by omega,i,B⟩
           case measure=>simp only[aS];omega
        ·by_cases aZ:op=5
         ·subst aZ;by_cases ar:h<2
          ·have j:=aB (D.u.Fv E.u (by rw[p.u];exact ar));have tl:(h:Int)-1<1:=by omega
           go_wp2_with fail
           go_ret;exact⟨⟨false,rfl,by simpa using j.u⟩,t.u.db.aL⟩
          ·have tl:¬(h:Int)-1<1:=by omega
           have Q:(5:Nat)≠6:=by decide
           have d:Hid ((l:Int)=(h:Int)-1):=by show _=_;have h0:=C.u;have h1:Pl.ey 5 h=h-2+1:=rfl;omega
           have Z:Hid (jl s.data.toList c h g (a_ s.data.toList c).next=g (c+z)):=by show _=_;unfold jl;rw[p.u,TJ Q,W.u]
           have G:=aB (Ak D.u E.u N.u ai.u p.u W.u C.u Q (by show 2<=h;omega));generalize g (c+z)=y at*;have kl:¬(16:Int)<(h:Int)-1:=by omega
           have r:l<=16:=by have:=d.u;omega
           by_cases H:0<=y
           ·by_cases n:y=(h:Int)-1
            ·have T:(y !=(h:Int)-1)=false:=by rw[Uv];exact n
             have i:=aB (G.u r (by rw[d.u];intro e;exact e.2 n));rw[d.u] at i;have B:=aB ((t.u.put (c+z) ((h:Int)-1)));clear r;go_wp2_with fail
             go_roundw
             case rel=>exact⟨c+1,c+z,l,_,_,by go_num,by omega,i,B⟩
             case measure=>simp only[aS];omega
            ·have T:(y !=(h:Int)-1)=true:=by rw[UY];exact n
             have j:=aB (D.u.uf E.u N.u (by rw[Z.u,p.u,<-C.u,d.u];exact⟨H,n⟩));clear n;go_wp2_with fail
             go_ret;exact⟨⟨false,rfl,by simpa using j.u⟩,t.u.db.aL⟩
           ·have i:=aB (G.u r (by rw[d.u];intro e;exact H e.1));rw[d.u] at i;have B:=aB ((t.u.put (c+z) ((h:Int)-1)));clear r;go_wp2_with fail
            go_roundw
            case rel=>exact⟨c+1,c+z,l,_,_,by go_num,by omega,i,B⟩
            case measure=>simp only[aS];omega
         ·by_cases aO:op=6
          ·subst aO;obtain⟨aP,rfl⟩:=aT.u rfl;have ad:Hid ((a_ s.data.toList c).next+(a_ s.data.toList c).first=c+3+two s.data.toList (c+1)):=by show _=_;rw[W.u,aP]
           have C6:Hid (∀w,Calls prog 46 #[.string s,.int .i64 ((c:Int)+1)] w λe w'=>e= .returned (.int .i64 (two s.data.toList (c+1):Nat))/\w.drew=w'):=λw=>ng s (c+1) w (by omega) hs;have aY:=H8 s.data.toList (c+1);generalize two s.data.toList (c+1)=v at*;have a7:v<=65535:=by omega
           clear aP aY;go_wp2_with fail
           refine(C6.u _).mono ?_;rintro e w2 ⟨rfl,rfl⟩;have J:Hid (mc w b w.heap.size M s.size (.slice a m cap) s F g w1.drew):=t.u.aE (TF _ _).drew;clear C6;by_cases ar:h<1
           ·have j:=aB (D.u.Fv E.u (by rw[p.u];exact ar));have tl:(h:Int)-1<0:=by omega
            go_wp2_with fail
            go_ret;exact⟨⟨false,rfl,by simpa using j.u⟩,J.u.db.aL⟩
           ·have tl:¬(h:Int)-1<0:=by omega
            by_cases aA:c+3+v<=s.size
            ·have tt:¬(s.size:Int)<(c:Int)+3+(v:Int):=by omega
             have b6:=J.u.db.nF.cell (c+3+v) aA;cases I:F (c+3+v) with
             |false=>
              have j:=aB (D.u.E8 E.u p.u (by rw[ad.u];intro e;have:=(am.u _).2 e;rw[I] at this;cases this));rw[I] at b6;clear I;go_wp2_with fail
              go_ret;exact⟨⟨false,rfl,by simpa using j.u⟩,J.u.db.aL⟩
             |true=>
              have aX:=aB ((am.u _).1 I);rw[I] at b6;have i6:=J.u.mZ.cell (c+3+v) aA;have f6:=aG.frozen J.u.mZ (c+3+v);have d:Hid ((l:Int)=(h:Int)-1):=by show _=_;have h0:=C.u;have h1:Pl.ey 6 h=h-1+0:=rfl;omega
              have K:=aB (t.u.put (c+3+v) ((h:Int)-1));have i7:=K.u.mZ.cell (c+3) aH;have f7:=aG.frozen K.u.mZ (c+3);have Z:Hid (jl s.data.toList c h g (a_ s.data.toList c).next=iO g (c+3+v) ((h:Int)-1) (c+3)):=by show _=_;unfold jl;rw[p.u,TP rfl,ad.u,W.u,<-C.u,d.u]
              have G:Hid (¬(0<=g (c+3+v)/\g (c+3+v)≠(l:Int))->l<=16->¬(0<=iO g (c+3+v) ((h:Int)-1) (c+3)/\iO g (c+3+v) ((h:Int)-1) (c+3)≠(l:Int))->
               eF s.data.toList m (c+1) (c+3) l (iO (iO g (c+3+v) ((h:Int)-1)) (c+3) (l:Int)) (Pl.del (gz A (a_ s.data.toList c) h) (c+3))):=by
               rw[<-d.u];exact P' D.u E.u N.u ai.u p.u W.u ad.u C.u (by omega) aX.u
              have al:Hid (0<=g (c+3+v)/\g (c+3+v)≠(l:Int)->¬Pl.Spec s.data.toList m 0 0 (λ_=>none)):=by intro e;refine D.u.Qr E.u p.u (by rw[ad.u,<-Uf];exact aA) ?_;rw[ad.u,p.u,<-C.u];exact e
              clear I;generalize hy:iO g (c+3+v) ((h:Int)-1) (c+3)=y at*;clear hy;generalize g (c+3+v)=x at*;by_cases aR:0<=x
              ·by_cases ab:x=(h:Int)-1
               ·have tx:(x !=(h:Int)-1)=false:=by rw[Uv];exact ab
                have ah:=aB (G.u (by rw[d.u];intro e;exact e.2 ab));clear G al ab;have kl:¬(16:Int)<(h:Int)-1:=by omega
                have r:l<=16:=by have:=d.u;omega
                by_cases H:0<=y
                ·by_cases n:y=(h:Int)-1
                 ·have T:(y !=(h:Int)-1)=false:=by rw[Uv];exact n
                  have i:=aB (ah.u r (by rw[d.u];intro e;exact e.2 n));rw[d.u] at i;have B:=aB ((K.u.put (c+3) ((h:Int)-1)).drew);clear r;go_wp2_with fail
                  go_roundw
                  case rel=>exact⟨c+1,c+3,l,_,_,by go_num,by omega,i,B⟩
                  case measure=>simp only[aS];omega
                 ·have T:(y !=(h:Int)-1)=true:=by rw[UY];exact n
                  have j:=aB (D.u.uf E.u N.u (by rw[Z.u,p.u,<-C.u,d.u];exact⟨H,n⟩));clear n;go_wp2_with fail
                  go_ret;exact⟨⟨false,rfl,by simpa using j.u⟩,K.u.db.aL.drew⟩
                ·have i:=aB (ah.u r (by rw[d.u];intro e;exact H e.1));rw[d.u] at i;have B:=aB ((K.u.put (c+3) ((h:Int)-1)).drew);clear r;go_wp2_with fail
                 go_roundw
                 case rel=>exact⟨c+1,c+3,l,_,_,by go_num,by omega,i,B⟩
                 case measure=>simp only[aS];omega
               ·have tx:(x !=(h:Int)-1)=true:=by rw[UY];exact ab
                have j:=aB (al.u (by rw[d.u];exact⟨aR,ab⟩));clear G al ab;go_wp2_with fail
                go_ret;exact⟨⟨false,rfl,by simpa using j.u⟩,J.u.db.aL⟩
              ·have ah:=aB (G.u (by rw[d.u];intro e;exact aR e.1));clear G al;have kl:¬(16:Int)<(h:Int)-1:=by omega
               have r:l<=16:=by have:=d.u;omega
               by_cases H:0<=y
               ·by_cases n:y=(h:Int)-1
                ·have T:(y !=(h:Int)-1)=false:=by rw[Uv];exact n
                 have i:=aB (ah.u r (by rw[d.u];intro e;exact e.2 n));rw[d.u] at i;have B:=aB ((K.u.put (c+3) ((h:Int)-1)).drew);clear r;go_wp2_with fail
                 go_roundw
                 case rel=>exact⟨c+1,c+3,l,_,_,by go_num,by omega,i,B⟩
                 case measure=>simp only[aS];omega
                ·have T:(y !=(h:Int)-1)=true:=by rw[UY];exact n
                 have j:=aB (D.u.uf E.u N.u (by rw[Z.u,p.u,<-C.u,d.u];exact⟨H,n⟩));clear n;go_wp2_with fail
                 go_ret;exact⟨⟨false,rfl,by simpa using j.u⟩,K.u.db.aL.drew⟩
               ·have i:=aB (ah.u r (by rw[d.u];intro e;exact H e.1));rw[d.u] at i;have B:=aB ((K.u.put (c+3) ((h:Int)-1)).drew);clear r;go_wp2_with fail
                go_roundw
                case rel=>exact⟨c+1,c+3,l,_,_,by go_num,by omega,i,B⟩
                case measure=>simp only[aS];omega
            ·have tt:(s.size:Int)<(c:Int)+3+(v:Int):=by omega
             have j:=aB (D.u.E8 E.u p.u (by rw[ad.u];intro e;have:=e.le;rw[<-Uf] at this;omega));go_wp2_with fail
             go_ret;exact⟨⟨false,rfl,by simpa using j.u⟩,J.u.db.aL⟩
          ·have t4:¬(op:Int)<=4:=by omega
           have t5:((op:Int)==5)=false:=by rw[TQ];omega
           have t6:((op:Int)==6)=false:=by rw[TQ];omega
           have Q:op≠6:=aO;have d:Hid ((l:Int)=(h:Int)):=by show _=_;have:=C.u;unfold Pl.ey Pl.iK xh at this;rw[TJ (by omega),TJ (by omega),TJ (by omega)] at this;omega
           have Z:Hid (jl s.data.toList c h g (a_ s.data.toList c).next=g (c+z)):=by show _=_;unfold jl;rw[p.u,TJ Q,W.u]
           have G:=aB (Ak D.u E.u N.u ai.u p.u W.u C.u Q (by unfold Pl.iK;rw[TJ (by omega),TJ Q];omega));generalize g (c+z)=y at*;have kl:¬(16:Int)<(h:Int):=by omega
           have r:l<=16:=by have:=d.u;omega
           by_cases H:0<=y
           ·by_cases n:y=(h:Int)
            ·have T:(y !=(h:Int))=false:=by rw[Uv];exact n
             have i:=aB (G.u r (by rw[d.u];intro e;exact e.2 n));rw[d.u] at i;have B:=aB ((t.u.put (c+z) ((h:Int))));clear r;go_wp2_with fail
             go_roundw
             case rel=>exact⟨c+1,c+z,l,_,_,by go_num,by omega,i,B⟩
             case measure=>simp only[aS];omega
            ·have T:(y !=(h:Int))=true:=by rw[UY];exact n
             have j:=aB (D.u.uf E.u N.u (by rw[Z.u,p.u,<-C.u,d.u];exact⟨H,n⟩));clear n;go_wp2_with fail
             go_ret;exact⟨⟨false,rfl,by simpa using j.u⟩,t.u.db.aL⟩
           ·have i:=aB (G.u r (by rw[d.u];intro e;exact H e.1));rw[d.u] at i;have B:=aB ((t.u.put (c+z) ((h:Int))));clear r;go_wp2_with fail
            go_roundw
            case rel=>exact⟨c+1,c+z,l,_,_,by go_num,by omega,i,B⟩
            case measure=>simp only[aS];omega
      ·have HD:=aB (S.u.done (by rw[<-Uf];exact O));have i0:=o.u.mZ.cell s.size ak;rw[show g s.size=(h:Int) from by have:=HD.u.1;rw[<-Uf] at this;exact this] at i0;clear S;go_wp2_with fail
       go_ret;refine⟨⟨_,rfl,?_⟩,o.u.db.aL⟩;rw[HD.u.2,UR];omega
