/- . -/
import Derived.Test.YtjelacjggijmfaaGreatDoorYEF5
set_option maxHeartbeats 4000000
set_option maxRecDepth 20000
namespace Go.Proofs.YtjelacjggijmfaaGreatDoor
open Pl Mk Cp Proofs.Tryz
open RowKit
variable {n:ax}{d j p m:Nat}{r:List aI}{g i:ay}{o:List ay}{c:List Wn}{l:List Nat}
theorem eA.tf {W:ax}{b:Bk}{k:Nat}(h:eA n W d j r b g i o k c l p m):∃a cap v,g= .slice a c.length cap/\(0<c.length->a=some ⟨v,0,none⟩)/\∀s (w:s<c.length) (t:Nat) (u:ay),(iH c[s])[t]?=some u->W.cell? ⟨v,s*7+t,none⟩=some u:=by
 by_cases y:0<c.length
 ·obtain⟨v,cap,e,-,-⟩:=d_ h.aQ y;refine⟨_,cap,v,e,λ_=>rfl,λs w t u x=> ?_⟩;have z:=h.aQ;rw[e] at z;have A:t<7:=(TZ.1 x).1;exact gx z (s*7+t) u (by rw[pk (f:=iH) (λ_=>rfl) c s t w A];exact x)
 ·obtain⟨a,cap,e⟩:=dX h.aQ;exact⟨a,cap,0,e,λq=>absurd q y,λs w=>by omega⟩
theorem Me {W:ax}{b:Bk}{k:Nat}{t:Wk}(h:eA n W d j r b g i o k c l p m)(G:c.map (·.x)=t.aQ.map (·.1))(R:c.length<=1073741824)(name:ag):
 Calls prog 55 #[.pointer (some ⟨d,0,none⟩),.string ⟨name.toArray⟩] W λe I=>e= .returned (gI (dj t.aQ name))/\I =W:=by
 have L:=h.row.cell 1 (by simp);simp only[TG,TI] at L;obtain⟨a,cap,T,rfl,O,C⟩:=h.tf;have F:=aB C;have z:Hid (dj t.aQ name=c.findIdx? λy=>y.x.name==name):=aB (by
  unfold dj;have K:(t.aQ.map (·.1)).findIdx? (λx=>x.name==name)=t.aQ.findIdx? λx=>x.1.name==name:=by rw[YV];rfl
  rw[<-K,<-G,YV];rfl)
 clear h C G;go_enter func55,ntmps55;go_wp2_with fail
 go_loopw [5] (λA wr=>∃f:Nat,A= .int .i64 f/\f<=c.length/\Hid (∀q (s:q<c.length),q<f->(c[q].x.name==name)=false)/\wr=W) (λA _=>c.length-aS A)
 case atStart=>exact⟨0,rfl,TS _,λq s M=>(by omega),rfl⟩
 case round=>
  obtain⟨f,rfl,M,v,N⟩:=hrel;subst N;by_cases E:f<c.length
  ·obtain rfl:=O (by omega);have H:=F.u f E 0 _ rfl;have J:(f:Int)<(c.length:Int):=by omega
   unfold aK at H;rw[Ve] at H;cases D:c[f].x.name==name with
   |true=>
    have w:Hid (dj t.aQ name=some f):=aB (by rw[z.u,Up];exact⟨E,D,λq s=>by rw[v.u q (by omega) s];decide⟩);clear v z F;generalize c[f].x.name=Q at*;go_wp2_with fail
    go_ret;exact⟨by rw[w.u];rfl,rfl⟩
   |false=>
    have B:Hid (∀q (s:q<c.length),q<f+1->(c[q].x.name==name)=false):=aB (λq s S=>by
     by_cases e:q=f
     ·subst e;exact D
     ·exact v.u q s (by omega))
    generalize c[f].x.name=Q at*;go_wp2_with fail
    first
     |exact⟨⟨f+1,by go_num,by omega,B,by trivial⟩,by simp only[aS];omega⟩
     |(go_roundw;exact⟨f+1,by go_num,by omega,B,by trivial⟩;simp only[aS];omega)
  ·have J:¬(f:Int)<(c.length:Int):=by omega
   have w:Hid (dj t.aQ name=none):=aB (by rw[z.u,UO];intro x P;obtain⟨q,s,rfl⟩:=U8 P;exact v.u q s (by omega));go_wp2_with fail
   go_ret;exact⟨by rw[w.u];rfl,rfl⟩
structure A4 (W W1:ax)(ef:List bL)(t:Wk)(ls:List (List ag))(S:List ag)(ve:ay)(bx sb n:Nat)(fin:Wd)(i:Nat)(fl:Nat->Bool)(X:Wd)(vf vc:ay)(wr:ax):Prop where
 rw:RW wr (bx+1) bx ve vf vc X
 st:aG wr sb 4 ((List.range n).map λq=> .bool (fl q))
 bU:Below bx W1 wr
 IZ:Fit S X.aX
 gG:X.aH.length<=iL (ls.take i)
 go:mx ef t ((t.aW.zip ls).drop i) fl X=fin
