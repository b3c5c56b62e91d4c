/- . -/
import Derived.Test.YtjelacjggijmfaaGreatDoorYED9
import Derived.Test.YtjelacjggijmfaaGreatDoorYR6
import Derived.Test.YtjelacjggijmfaaGreatDoorYGF4
set_option maxHeartbeats 4000000
set_option maxRecDepth 20000
namespace Go.Proofs.YtjelacjggijmfaaGreatDoor
open Pl Mk Cp Proofs.Tryz
open RowKit
theorem F0:xu:=by
 intro n s w d;by_cases b:0<s.size
 ·by_cases a:s[0]=9
  ·exact Kv n s w b a
  ·refine Ka n s w d ?_ b (wY a);rw[IB s b];simpa using a
 ·have c:s.data.toList=[]:=by rw[WI,<-Uf];omega
  obtain rfl:s=⟨#[]⟩:=ie c;exact KO n w
variable {g:List aI}{i j f c n:Nat}
theorem Ep {L0:ax}{bb:Nat}{vf:ay}(f:i<=1048576)(a:∀l j,Pl.look g l=some j->j.aT.length<=i)(c:g.length<=16777216):∀d,d<=3->xR L0 bb vf g i ((3-d:Nat):Int) (jP g d)
 |0,_=>by have:=FN F0 (L0:=L0) (bb:=bb) (vf:=vf) (rec:=λb _=>b) (can:=false) f (λb k o _ h=>dW.refl h _) a c 3 (by decide) (λe=>by cases e);exact this
 |d+1,n=>by
  have m:=Ep (L0:=L0) (bb:=bb) (vf:=vf) f a c d (by omega);have:=FN F0 (L0:=L0) (bb:=bb) (vf:=vf) (rec:=jP g d) (can:=true) f (zP a d) a c (3-(d+1)) (by rw[Uz (by omega)]) (λ_=>by
   have e:(((3-(d+1):Nat):Int)+1)=((3-d:Nat):Int):=by omega
   rw[e];exact m)
  exact this
def Il (c:List aI)(d:ag)(W:ax)(e:Ending)(b :ax):Prop:=∃a,e= .returned (.pointer (some ⟨a,0,none⟩))/\W.heap.size<=a/\mh b a c (eb c d)/\Below W.heap.size W b
theorem Hr {W:ax}{a:Option Addr}(cap:Nat)(b:Nat)(e:0<g.length->a=some ⟨i,j,none⟩/\i<W.heap.size)(d:dA W i j g):cG W (W.alloc (.cells #[.slice a g.length cap,.slice none 0 0,.slice none 0 0,dg 0,dg b,dg 0] 111)) W.heap.size (.slice a g.length cap) g ⟨[],[],0,b,0,.slice none 0 0,.slice none 0 0⟩:=⟨aG.bA W 111 [.slice a g.length cap,.slice none 0 0,.slice none 0 0,dg 0,dg b,dg 0],aj W _,TD _,⟨a,cap,i,j,rfl,e,d⟩,Uk _ _ _ _,Uk _ _ _ _,Uk _ _ _ _,Uk _ _ _ _,λx c=>(by cases c),λx c=>(by cases c)⟩
theorem OK {W:ax}(Q:i<=1048576)(v:∀z I,Pl.look g z=some I->I.aT.length<=i)(y:g.length<=16777216)(f:ag)(a:Option Addr)(cap m w:Nat)(h:0<g.length->a=some ⟨m,w,none⟩/\m<W.heap.size)(c:dA W m w g):
 Calls prog 51 #[.slice a g.length cap,.string ⟨f.toArray⟩] W λe J=>Il g f W e J :=by
 have q:Below W.heap.size W (W.alloc (.cells #[.slice a g.length cap,.slice none 0 0,.slice none 0 0,.int .i64 0,.int .i64 0,.int .i64 0] 111)):=aj W _;have F:=Hr cap 2 h c;have A:=Hr cap 0 h c;have D:jF ⟨[],[],0,0,0,.slice none 0 0,.slice none 0 0⟩ lp:=⟨rfl,rfl,rfl,rfl,rfl⟩;have C:gR i lp (0+(i+1)):=⟨0,⟨TS _,λaf c=>(by cases c),TD _,λx t=>(by cases t),λx t=>(by cases t),TD _,TS _,TS _,TS _⟩,by show 0+(0+(i+1))+(100-0)*(i+1)<=101*(i+1);omega⟩;have j:=aB (n_ g f a cap m w (W.alloc (.cells #[.slice a g.length cap,.slice none 0 0,.slice none 0 0,.int .i64 0,.int .i64 0,.int .i64 0] 111)) (λe=>(h e).1) (λR P=>c.aL q (h (by omega)).2 R P) y);unfold aK at j;have K:=aB A;have E:=aB F;have X:=aB D;have O:=aB C;have aa:=aB q;have H:=aB (Ep (L0:=W) (bb:=W.heap.size) (vf:= .slice a g.length cap) Q v y 3 ak);have M:=aB c;have S:=aB v;have ab:=aB h;clear A F D C q c v;go_enter func51,ntmps51;rcases oY (fs:=g) (p:=f) with⟨l,d⟩|⟨k,U,l,d⟩
 ·rw[l] at j;have r:Hid (eb g f={lp with cy:=2}):=aB (by unfold eb;rw[d]);clear l d;have p:=aB (E.u.tA (b:={lp with cy:=2}) ⟨rfl,rfl,rfl,rfl,rfl⟩);have n:=aB E.u.bU;go_wp2_with (first|(go_at_call 45;refine j.u.mono ?_;rintro e V ⟨rfl,o⟩;subst o)|fail)
  go_ret;exact⟨W.heap.size,rfl,TD _,by rw[r.u];exact p.u,n.u⟩
 ·rw[l] at j;have B:=S.u _ _ d;have r:Hid (eb g f=jP g 3 lp g[k].aT):=aB (by unfold eb;rw[d]);obtain⟨rfl,ad⟩:=h (by omega);obtain⟨-,L,-⟩:=M.u k U;unfold aK at L;have T:=aB (H.u _ _ lp g[k].aT 0 K.u X.u rfl B O.u);have ac:¬(k:Int)<0:=by omega
  have ae:(k:Int)<(g.length:Int):=by omega
  clear l d B H;generalize g[k].aT=tx at*;go_wp2_with (first|(go_at_call 45;refine j.u.mono ?_;rintro e V ⟨rfl,o⟩;subst o)|(go_at_call 69;refine T.u.mono ?_;rintro e Z ⟨⟨Y,rfl⟩,m9,s,G,N⟩;have p:=aB (s.tA G);have n:=aB s.bU;clear s G N)|fail)
  go_ret;exact⟨W.heap.size,rfl,TD _,by rw[r.u];exact p.u,n.u⟩
def R' (p:List aI)(b:Bk)(j m:Nat)(f:Wk)(l:List (List ag))(W:ax)(e:Ending)(a :ax):Prop:=
 ∃c,e= .returned (.pointer (some ⟨c,0,none⟩))/\Below W.heap.size W a /\c<a.heap.size/\a.cell? ⟨c,3,none⟩=some (dg j)/\a.cell? ⟨c,4,none⟩=some (dg m)/\
  (j=0->∃o k i n d,eA o a c k p b i n [i] d.length d f.aW 0 0/\d.map (·.x)=f.aQ.map (·.1)/\∀g (h:g<f.aW.length),(d.getD f.aW[g] iA).cs=l.getD g [])
variable {m o:ax}{k l a:ay}{d:Wk}
theorem eZ.wo {W:ax}{b:Bk}{p:List ((Nr×Bool)×ay)}(h:eZ m W i j g b k l p d f):eA m W i j g b k l [k] (p.map λx=>(⟨x.1.1,x.1.2,x.2,[],.slice none 0 0⟩:Wn)).length (p.map λx=>⟨x.1.1,x.1.2,x.2,[],.slice none 0 0⟩) d.aW f 0:=by
 have E:∀{q:Nat} {v:Array ay} {z:Nat×Nat},W.heap[q]?=some (Obj.cells v 9 z)->q<W.heap.size/\q≠i/\∀u∈[k],some q≠u.ownBlock:=λo=>by obtain⟨t,B,F,-⟩:=h.aY o;exact⟨t,B,λu s=>by rw[TL.1 s];exact F⟩
 refine⟨h.row,h.cV,h.bU,h.lt,?_,z8 h.aW,λq o=> ?_,λy D=> ?_,λJ H _=> ?_⟩
 ·have e:(p.map λx=>(⟨x.1.1,x.1.2,x.2,[],.slice none 0 0⟩:Wn)).flatMap iH=p.flatMap jM:=by
   rw[List.flatMap_map];rfl
  rw[e,TR];exact h.aQ
 ·have t:=T3 h.aW q o;exact⟨t.2,by omega,λu s=>by rw[TL.1 s];exact h.xc o⟩
 ·obtain⟨x,A,rfl⟩:=Uc.1 D;refine⟨(h.aF x A).1,λq o=> ?_⟩;cases r:x.2 with
  |slice a n c=>
   cases a with
   |none=>rw[show (⟨x.1.1,x.1.2,x.2,[],.slice none 0 0⟩:Wn).vn=x.2 from rfl,r] at o;cases o
   |some w=>rw[show (⟨x.1.1,x.1.2,x.2,[],.slice none 0 0⟩:Wn).vn=x.2 from rfl,r] at o;cases o;obtain⟨v,z,C⟩:=(h.aF x A).2 (some w) n c w r rfl;exact E C
  |_=>rw[show (⟨x.1.1,x.1.2,x.2,[],.slice none 0 0⟩:Wn).vn=x.2 from rfl,r] at o;cases o
 ·rw[Ut];exact⟨⟨none,0,0,0,rfl,λe=>(by cases e),λI G=>(by cases G)⟩,λq o=>(by cases o)⟩
theorem ik.Tb {k:Nat}{b:Bk}(a:ik i b k)(o:i<=1048576)(q:k<=101*(i+1)):mi b:=by
 have r:101*(i+1)<=105906277:=by omega
 refine⟨a.gG,λl f=> ?_,⟨by have:=a.nl;omega,a.nf,λx m=>by have:=a.nt x m;omega,by have:=a.ns;omega⟩,a.cj,by have:=a.bW;omega,a.cy⟩;obtain⟨j,d,h,e,p,n⟩:=a.ru l f;exact⟨j,d,h,e,by omega,λc g=>by have:=n.1 c g;omega⟩
theorem DF (name:ag):∀(rs:List Ru) (a:List ag),(∀b∈rs,b.nd.length<=2000)->(rs.foldl (λa b=>if de name b=true then b.nd.foldl cX a else a) a).length<=a.length+rs.length*2000
 |[],a,_=>by simp
 |b::rs,a,h=>by
  rw[Ux];have f:=h b (TY ..);have e:=DF name rs (if de name b=true then b.nd.foldl cX a else a) λq c=>h q (TX _ c);have d:(if de name b=true then b.nd.foldl cX a else a).length<=a.length+2000:=by
   split
   ·have:=qP b.nd a;omega
   ·omega
  rw[TK,VO];omega
theorem Oz {b:Bk}(d:mi b)(h:List aI)(name:ag):(cT b h name).1.aF.length<=130000:=by
 have e:∀a:List ag,a.length<=2000->(lA b name a).length<=130000:=λa m=>by have g:=DF name b.aD a λf i=>(d.aD f i).nd;have j:b.aD.length*2000<=64*2000:=U4 _ d.gG;unfold lA;omega
 unfold cT;split
 ·cases l:jD b h name with
  |none=>exact e [] (TS _)
  |some c=>
   refine e _ ?_;have g:=qP ((b.aD.getD c cQ).nd.map λn=>cH n (fN ((b.aD.getD c cQ).tg.headD []) name)) [];rw[TR,T1] at g;have j:(b.aD.getD c cQ).nd.length<=2000:=by
    rw[TO];cases k:b.aD[c]? with
    |none=>exact TS _
    |some f=>exact(d.aD f (Vw k)).nd
   omega
 ·exact e [] (TS _)
theorem zV {N:ag->Nv}{f:UInt8->Option ag}:∀{d:List (ag×Nat)} {a b:List ag},pB N f d a (.inr b)->b.length<=a.length+d.length
 |[],a,b,h=>by have e:(Sum.inr b:(Nat×Nat)⊕List ag)= .inr a:=h;cases e;simp
 |c::d,a,b,⟨g,_,h⟩=>by
  split at h
  ·cases h
  ·split at h
   ·have:=zV h;rw[TK];omega
   ·have:=zV h;rw[TE,T6] at this;rw[TK];omega
theorem y_ (a:List (List ag))(b:List ag):iL (a++[b])=iL a+b.length:=by unfold iL;rw[T',X4];simp
structure nN (L0:ax)(wb bb:Nat)(fs:List aI)(b:Bk)(vN vO:ay)(t:Wk)(S:(Nat×Nat)⊕List (List ag))(i er ln:Nat)(z:Int)(ls:List (List ag))(ys:List Wn)(wr:ax):Prop where
 wo:eA L0 wr wb bb fs b vN vO [vN] ys.length ys t.aW er ln
 nx:ys.map (·.x)=t.aQ.map (·.1)
 un:∀j (h:j<ys.length),j∉t.aW.take i->ys[j].cs=[]/\ys[j].vc= .slice none 0 0
 dn:∀j (h:j<t.aW.length),j<i->er=0->(ys.getD t.aW[j] iA).cs=ls.getD j []
 ll:er=0->ls.length=i
 go:er=0->qm (nR b.aV) ((fQ b t).drop i) ls S
 st:er≠0->S= .inl (er,ln)
 ok:er=0->ln=0/\z=(iL ls:Int)/\iL ls<=i*110000000
def Ik (N:ag->Nv)(c:List cA)(a:List (List ag))(S:(Nat×Nat)⊕List (List ag)):(Nat×Nat)⊕List ag->Prop
 | .inl e=>S= .inl e
 | .inr b=>qm N c (a++[b]) S
theorem nN.step {b:Bk}{S:(Nat×Nat)⊕List (List ag)}{z:Int}{w:List (List ag)}{p:List Wn}{wr:ax}(h:nN m i j g b k l d S f 0 0 z w p wr)(O:f<d.aW.length)(E:d.aW[f]<p.length)(X:d.aW.Nodup){u :(Nat×Nat)⊕List ag}{s :List ag}(N:eA m o i j g b k l [k] p.length (p.set d.aW[f] {p.getD d.aW[f] iA with cs:=s,vc:=a }) d.aW c n)(v :AR u c n s)(D:∀G,u = .inr G->G.length<=110000000)(C:∀q,u = .inl q->q.1≠0)(y:Ik (nR b.aV) ((fQ b d).drop (f+1)) w S u){K :Int}(Z:c =0->K =z+(s.length:Int)):∃R,nN m i j g b k l d S (f+1) c n K R (p.set d.aW[f] {p.getD d.aW[f] iA with cs:=s,vc:=a }) o :=by
 have M:(p.set d.aW[f] {p.getD d.aW[f] iA with cs:=s,vc:=a }).length=p.length:=UB;have U:p.getD d.aW[f] iA=p[d.aW[f]]:=by rw[TO,TH E];rfl
 have P:(p.set d.aW[f] {p.getD d.aW[f] iA with cs:=s,vc:=a }).map (·.x)=d.aQ.map (·.1):=by rw[aaI,<-h.nx];show(p.map (·.x)).set d.aW[f] (p.getD d.aW[f] iA).x=_;rw[U];have:(p.map (·.x))[d.aW[f]]'(by simpa using E)=p[d.aW[f]].x:=Ut ..;rw[<-this,YW]
 have T:d.aW.take (f+1)=d.aW.take f++[d.aW[f]]:=TW O;have I:∀r (t:r<(p.set d.aW[f] {p.getD d.aW[f] iA with cs:=s,vc:=a }).length),r∉d.aW.take (f+1)->(p.set d.aW[f] {p.getD d.aW[f] iA with cs:=s,vc:=a })[r].cs=[]/\(p.set d.aW[f] {p.getD d.aW[f] iA with cs:=s,vc:=a })[r].vc= .slice none 0 0:=λr t H=>by rw[T,T4,not_or,TL] at H;rw[abb (λe=>H.2 e.symm)];exact h.un r (by omega) H.1
 have W:∀r (t:r<d.aW.length),r<f->(p.set d.aW[f] {p.getD d.aW[f] iA with cs:=s,vc:=a }).getD d.aW[r] iA=p.getD d.aW[r] iA:=λr t L=>by
  have aa:d.aW[f]≠d.aW[r]:=λe=>by exact W8.1 X r f t O L e.symm
  rw[TO,Za aa,<-TO]
 have Q:(p.set d.aW[f] {p.getD d.aW[f] iA with cs:=s,vc:=a }).getD d.aW[f] iA={p.getD d.aW[f] iA with cs:=s,vc:=a }:=by rw[TO,aaD E];rfl
 match u,v,y,D,C with
 | .inl q,v,y,_,C=>
  obtain⟨B,F⟩:=v;have A:c ≠0:=by rw[B];exact C q rfl
  exact⟨w,by rw[M];exact N,P,I,λ_ _ _ e=>absurd e A,λe=>absurd e A,λe=>absurd e A,λ_=>by rw[B,F];exact y,λe=>absurd e A⟩
 | .inr G,v,y,D,_=>
  obtain⟨B,F,V⟩:=v;subst B F V;have J:=h.ll rfl;obtain⟨-,k1,k2⟩:=h.ok rfl;have hc:=D _ rfl;refine⟨w++[s],by rw[M];exact N,P,I,λr t L _=> ?_,λ_=>by rw[TE,J];rfl,λ_=>y,λe=>absurd rfl e,λ_=>⟨rfl,?_,?_⟩⟩
  ·by_cases e:r<f
   ·rw[W r t e,h.dn r t e rfl,TO,TO,UZ (by omega)]
   ·have Y :r=f:=by omega
    subst Y;rw[Q];show s =(w++[s]).getD r [];rw[TO,Uq (by omega),J,XT];rfl
  ·rw[Z rfl,k1,y_];omega
  ·rw[y_,VO];omega
