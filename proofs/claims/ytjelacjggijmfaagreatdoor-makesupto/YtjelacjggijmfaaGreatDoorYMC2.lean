/- . -/
import Derived.Test.YtjelacjggijmfaaGreatDoorYMC1
namespace Go.Proofs.YtjelacjggijmfaaGreatDoor
open Pl Mk Cp Proofs.Tryz
open Go.ChangeShapes Go.WideShapes Go.ChangeAt RowKit
section
open Go.ChangeMaps (open_string shut_string)
set_option maxRecDepth 100000 in
theorem agh (H:Type)(y:TypeId×az->H)(W:ay)(base:Nat)(args:Array az)(w C:List (DataW H))(bo:List MemPlace)(k:∀(K:Nat) t v,Tryz.f4.params[K]?=some t->args[K]?=some v->Value.okWide prog W .any base t v)(P:DataW.Whole y prog Tryz.f4.params.toList Rows.makesSpec.vars false W args.toList w C bo)(hk:Rows.uptoSmall H (w++C)=true)(al:W.ShapedOpen prog):
 Calls prog 4 args W λe N=>∃v,e= .returned v/\Rows.makesSpec.post y prog Tryz.f4 false true false false W args v N :=by
 have r :=P;obtain⟨Y,q,hA0,hV,rfl,aw,dA⟩:=P;have I:DataW.TrodAll y prog W 0 (λ_=>true) true Tryz.f4.params.toList args.toList w Y:=hA0;rw[params4] at I k;obtain⟨v0,ap,d0,ao,p0,q0,au,rfl,rfl,O,V⟩:=trodAll_cons I;obtain⟨v1,an,d1,aB,p1,q1,rfl,rfl,rfl,h1,r1⟩:=trodAll_cons V;obtain⟨L,aD,d2,aq,p2,q2,rfl,rfl,rfl,h2,r2⟩:=trodAll_cons r1;obtain⟨F,aC,d3,ar,T,q3,rfl,rfl,rfl,h3,r3⟩:=trodAll_cons r2;obtain⟨v4,ax,d4,aE,p4,q4,rfl,rfl,rfl,h4,r4⟩:=trodAll_cons r3;obtain⟨rfl,rfl,rfl⟩:=trodAll_nil r4;obtain rfl:args= #[v0,v1,L,F,v4]:=by cases args;simp_all
 obtain⟨rfl,rfl⟩:=trodVars_none hV;obtain⟨J,n1,c1,rfl⟩:=okWide_slice A2 (k 0 22 v0 rfl rfl);obtain⟨s,rfl,rfl,rfl,hs⟩:=open_string Yj (k 1 9 v1 rfl rfl) h1;obtain⟨m,rfl,rfl,rfl,ad⟩:=open_string Yj (k 2 9 L rfl rfl) h2;obtain⟨M,n2,c2,rfl⟩:=okWide_slice underlying23 (k 3 23 F rfl rfl);obtain⟨z,rfl,rfl,rfl,Z⟩:=open_int YY (k 4 3 v4 rfl rfl) h4;clear hA0;have D:∀x,x∈p0\/x∈T->x.block<W.heap.size:=λx i=>r.lt x (by simpa using i);obtain⟨aa,S⟩:=O;obtain⟨aj,Q⟩:=h3;obtain⟨l,o⟩:=af7 S;obtain⟨j,p⟩:=agp Q;simp only[ZR] at r;have g:=q9 hk;simp only[ZR,Rows.uptoBulkAll,Rows.uptoBulk] at g;have ab:=o.sum;have ak:=p.len;simp only at ab ak;obtain⟨a,cap,b,B,e1,k1⟩:=o.jP;obtain⟨ae,ce,be,R,e2,k2⟩:=p.jP;have am :=e1;have U :=e2;cases am;cases U;have hm:(⟨s.data.toList.toArray⟩:aA)=s:=(ij (t:=s) rfl).symm;have af:(⟨m.data.toList.toArray⟩:aA)=m:=(ij (t:=m) rfl).symm;have av:=BC l;have ai:∀e∈j,e.cE.length<=(j.flatMap (·.cE)).length:=λe d=>agr d;have G:=agl W al;obtain⟨mg,ag⟩:=id G;have O:=ZO W _ ag;have hI:D7 l J B W:=λX g=>by
  have:=g.size;by_cases c:0<l.length
  ·obtain⟨u,n,x3⟩:=k1 c;exact⟨b,λ_=>u,n.aP g x3,by omega⟩
  ·exact⟨0,λh=>absurd h c,λah hi=>by omega,by omega⟩
 have ac:LC j M R W:=λX g=>by
  have:=g.size;by_cases c:0<j.length
  ·obtain⟨u,n⟩:=k2 c;exact⟨W.heap.size,be,λ_=>u,n.aP g,by omega⟩
  ·exact⟨X.heap.size,0,λh=>absurd h c,⟨by omega,λah hi=>by omega⟩,X0 _⟩
 have E:=makes_any s.data.toList m.data.toList l (by omega) j (l.map (·.aL)++(j.flatMap (·.cE)).map (·.aL)) J M c1 B c2 R z W hI ac (by omega) (λe d=>by have:=ai e d;omega) (by simp only[X4,Yk];omega)
  (λf c=>YK _ (ad2 c)) (λe d f c=>YQ _ (ad2 (List.mem_flatMap_of_mem d c))) (λx i=>by
   rcases Yv.1 i with h|h
   ·obtain⟨f,c,rfl⟩:=YC.1 h;exact o.aL f c
   ·obtain⟨f,c,rfl⟩:=YC.1 h;obtain⟨e,d,c⟩:=x'.1 c;exact p.aL e d f c) G
 unfold γ σ at E;rw[hm,af]at E;refine E.mono λe N ⟨d,A⟩=> ?_;subst d;exact⟨_,rfl,_,_,_,_,_,_,r,trodAll_cons_mk (shut_bool Zb _) trodAll_mk0,trodAll_cons_mk (Below.trod Tryz.agc (by kernel_rfl) (q9 (by kernel_rfl)) ⟨aa,S⟩ A (λx i=>D x (.inl i))) (trodAll_cons_mk (shut_string Yj hs) (trodAll_cons_mk (shut_string Yj ad) (trodAll_cons_mk (Below.trod Tryz.agc (by kernel_rfl) (q9 (by kernel_rfl)) ⟨aj,Q⟩ A (λx i=>D x (.inr i))) (trodAll_cons_mk (shut_int YY Z) trodAll_mk0)))),rfl,A.frame _,λh=>by cases h⟩
end
