/- . -/
import Derived.Test.YtjelacjggijmfaaGreatDoorYED6
import Derived.Test.YtjelacjggijmfaaGreatDoorYED5
namespace Go.Proofs.YtjelacjggijmfaaGreatDoor
open Pl Mk Cp Proofs.Tryz
open RowKit
def vu (W:ax)(v:ay)(xs:List (Nat×ag)):Prop:=∃a cap c,v= .slice a xs.length cap/\(0<xs.length->a=some ⟨c,0,none⟩)/\
 ∀(k:Nat) (x:Nat×ag),xs[k]?=some x->∃L d:az,(rk (br x.2)≠120->L=⟨(br x.2).1.left.toArray⟩/\d=⟨(br x.2).1.right.toArray⟩)/\
  W.cell? ⟨c,k*4,none⟩=some (.int .i64 x.1)/\W.cell? ⟨c,k*4+1,none⟩=some (.int .u8 (rk (br x.2)))/\W.cell? ⟨c,k*4+2,none⟩=some (.string L)/\W.cell? ⟨c,k*4+3,none⟩=some (.string d)
theorem iM.tA {w:ax}{B:Nat}{v:ay}{xs:List (Nat×ag)}(h:iM w B v xs):vu w v xs:=by
 obtain⟨c,p,d⟩:=h;rcases d.2 with⟨g,j⟩|⟨r,cap,u,g,j,y,s⟩
 ·exact⟨none,0,0,by rw[g,j],λh=>(by omega),λk x f=>(by have:=(TZ.1 f).1;omega)⟩
 ·subst g;refine⟨_,cap,r,rfl,λ_=>rfl,?_⟩;intro k x f;obtain⟨a,⟨L,n,rfl,o⟩,e⟩:=p.at k x f;have t:k<xs.length:=(TZ.1 f).1;refine⟨L,n,o,?_,?_,?_,?_⟩
  ·have q:=d.cellAt (k*4) (by omega);have l:=e 0 (by omega);rw[Ve] at l;rw[q,l];rfl
  ·rw[d.cellAt (k*4+1) (by omega),e 1 (by omega)];rfl
  ·rw[d.cellAt (k*4+2) (by omega),e 2 (by omega)];rfl
  ·rw[d.cellAt (k*4+3) (by omega),e 3 (by omega)];rfl
theorem vu.cF {W X:ax}{bb:Nat}{os l :List ay}{v:ay}{xs:List (Nat×ag)}(h:vu W v xs)(n:Fz W bb os v)(u:dN W X bb os l):vu X v xs:=by obtain⟨a,cap,c,g,e,r⟩:=h;refine⟨a,cap,c,g,e,λk x f=> ?_⟩;obtain⟨L,j,z,o,q,s,t⟩:=r k x f;have A:k<xs.length:=(TZ.1 f).1;obtain⟨p,w,y⟩:=n c (by rw[g,e (by omega)];rfl);have d:=u.jo c p w y;exact⟨L,j,z,(VJ (a:=⟨c,_,none⟩) d).trans o,(VJ (a:=⟨c,_,none⟩) d).trans q,(VJ (a:=⟨c,_,none⟩) d).trans s,(VJ (a:=⟨c,_,none⟩) d).trans t⟩
structure nL (L0 W:ax)(bb:Nat)(vf v:ay)(fs:List aI)(os:List ay)(xs:List (Nat×ag))(T rest:Nat)(rec:Bk->ag->Bk)(can:Bool)(fin:Bk)(i:Nat)(op:Bool)(m:Bm)(b:Bk)(wr:ax):Prop where
 mm:cG L0 wr bb vf fs m
 ii:jF m b
 f:dN W wr bb os m.os
 w:vu wr v xs
 wz:Fz wr bb m.os v
 bd:gR T b (rest+lD (xs.drop i))
 go:jj rec can fs (xs.drop i) b op=fin
 ne:op=true->b.aD≠[]
theorem Fm {b:Bk}{a c:ag}{n:Nat}(h:(fZ b a c n).cy=0):(fZ b a c n).aD≠[]:=by
 unfold fZ at h⊢;split at h
 ·rename_i q;exact absurd h q
 ·split at h
  ·rename_i q;exact absurd h q
  ·split at h
   ·cases h
   ·split at h
    ·cases h
    ·rename_i f d g e;rw[TJ f,TJ d,TJ g,TJ e];simp
theorem N0 {rec:Bk->ag->Bk}{can:Bool}{fs:List aI}{b:Bk}{op:Bool}{x:Nat×ag}(a:op=true->b.aD≠[])(h:(fM rec can fs b op x).1=true):(fM rec can fs b op x).2.aD≠[]:=by
 unfold fM at h⊢;split
 ·rename_i q;rw[TP q] at h;exact a h
 ·rename_i q;rw[TJ q] at h;split
  ·rename_i q;rw[TP q] at h;have c :op=true:=h;simp only[c,Vn];unfold kH;split
   ·exact a c
   ·intro e;have:=TU List.length e;simp only[UB,T1] at this;exact a c (UH.1 this)
  ·rename_i q;rw[TJ q] at h;split
   ·rename_i q;rw[TP q] at h;cases h
   ·rename_i q;rw[TJ q] at h;split
    ·rename_i q;rw[TP q] at h;cases h
    ·rename_i q;rw[TJ q] at h;split
     ·rename_i q;rw[TP q] at h;cases h
     ·rename_i q;rw[TJ q] at h;split
      ·rename_i q;rw[TP q] at h;have d:=(U0 _ _▸h:_/\_).1;exact Fm (Xe d)
      ·rename_i q;rw[TJ q] at h;exact a h
section
variable {L0 W:ax} {bb:Nat} {vf v:ay} {fs:List aI} {os:List ay} {xs:List (Nat×ag)} {T rest:Nat} {rec:Bk->ag->Bk} {can:Bool} {fin:Bk} {i:Nat} {op:Bool} {m m' :Bm} {b:Bk} {wr w' :ax}
theorem nL.cF (h:nL L0 W bb vf v fs os xs T rest rec can fin i op m b wr)(u:px T rec)(y:∀r p,Pl.look fs r=some p->p.aT.length<=T)(c:i<xs.length)(o:xs[i].2.length<=T/\xs[i].1<=T+1)(t:b.cy=0)(x:cG L0 w' bb vf fs m'){j :Bool}{a :Bk}(g:fM rec can fs b op xs[i]=(j,a))(q:jF m' a)(d:dN wr w' bb m.os m'.os):nL L0 W bb vf v fs os xs T rest rec can fin (i+1) j m' a w' :=by
 have s:(fM rec can fs b op xs[i]).1=j :=by rw[g]
 have n:(fM rec can fs b op xs[i]).2=a :=by rw[g]
 refine⟨x,q,h.f.trans d,h.w.cF h.wz d,h.wz.cF d,?_,?_,λe=> ?_⟩
 ·have l:=h.bd;rw[T2 c,Mk.sn] at l;rw[<-n];exact gR.step (add:=xs[i].2.length+1) (by have:=l;rwa [abd (xs[i].2.length+1),<-Xj] at this) λk c=>G9 u y c _ o.1 o.2
 ·have:=h.go;rw[T2 c,jj,TJ (λe=>e t),g] at this;exact this
 ·rw[<-n];exact N0 h.ne (by rw[s];exact e)
theorem nL.aE (h:nL L0 W bb vf v fs os xs T rest rec can fin i op m b wr)(a:Below wr.heap.size wr w'):nL L0 W bb vf v fs os xs T rest rec can fin i op m b w' :=⟨(h.mm.aE a).1,h.ii,h.f.trans (h.mm.aE a).2,h.w.cF h.wz (h.mm.aE a).2,h.wz.cF (h.mm.aE a).2,h.bd,h.go,h.ne⟩
theorem nL.cD (h:nL L0 W bb vf v fs os xs T rest rec can fin i op m b wr)(d:¬i<xs.length\/b.cy≠0):mW L0 bb vf fs os fin W (.returned (.tuple #[])) wr:=by
 have e:fin=b:=by
  have a:=h.go;by_cases c:i<xs.length
  ·rw[T2 c,jj,TP (d.resolve_left (λq=>q c))] at a;exact a.symm
  ·rw[U_ (by omega)] at a;exact a.symm
 rw[e];exact⟨⟨_,rfl⟩,m,h.mm,h.ii,h.f⟩
end
