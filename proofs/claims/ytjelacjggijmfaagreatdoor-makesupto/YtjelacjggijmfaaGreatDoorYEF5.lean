/- . -/
import Derived.Test.YtjelacjggijmfaaGreatDoorYED9
import Derived.Test.YtjelacjggijmfaaGreatDoorYGF4
set_option linter.all false
set_option maxHeartbeats 8000000
set_option maxRecDepth 20000
namespace Go.Proofs.YtjelacjggijmfaaGreatDoor
open Pl Mk Cp Proofs.Tryz
open RowKit
section
variable {g:fy}{i j f c n:Nat}{l o x:ay}{k m a:az}{d:Wk}{K:Bk}{e:List (fv)}{h:fv}
def Jb:zj:=by
 intro n s w d;by_cases b:0<s.size
 ·by_cases a:s[0]=9
  ·exact NA n s w b a
  refine M3 n s w d ?_ b (yM a);rw[K9 s b];simpa using a
 have c:s.data.toList=[]:=by rw[aa7,<-YJ];omega
 obtain rfl:s=⟨#[]⟩:=ij c;exact N' n w
theorem GX{L0:ay}{bb:Nat}{vf:az}(f:i<=1048576)(a:∀m j,Pl.look g m=some j->j.aU.length<=i)(c:g.length<=16777216):∀d,d<=3->zD L0 bb vf g i ((3-d:Nat):Int) (kC g d)
 |0,_=>by have:=I2 Jb (L0:=L0) (bb:=bb) (vf:=vf) (rec:=λb _=>b) (can:=false) f (λb k o _ h=>eF.refl h _) a c 3 (by decide) (λe=>by cases e);exact this
 |d+1,n=>by
  have l:=GX (L0:=L0) (bb:=bb) (vf:=vf) f a c d (by omega);have:=I2 Jb (L0:=L0) (bb:=bb) (vf:=vf) (rec:=kC g d) (can:=true) f (B7 a d) a c (3-(d+1)) (by rw[Y6 (by omega)]) (λ_=>by
   have e:(((3-(d+1):Nat):Int)+1)=((3-d:Nat):Int):=by omega
   rw[e];exact l)
  exact this
def KR(b:fy)(d:aj)(W:ay)(e:Ending)(c:ay):Prop:=∃a,e=.returned (π a)/\W.heap.size<=a/\nL c a b (eA b d)/\μ W c
def Kr{a:fY}(f:Nat)(b:Nat)(d:0<g.length->a=some ⟨i,j,none⟩/\i<l.heap.size)(e:eJ l i j g):cV l (l.alloc (.cells #[.slice a g.length f,ς,ς,dC 0,dC b,dC 0] 111)) l.heap.size (.slice a g.length f) g ⟨[],[],0,b,0,ς,ς⟩:=⟨aF.bq l 111 [.slice a g.length f,ς,ς,dC 0,dC b,dC 0],ak l _,X0 _,⟨a,f,i,j,rfl,d,e⟩,YG _ _ _ _,YG _ _ _ _,YG _ _ _ _,YG _ _ _ _,λx c=>(by cases c),λx c=>(by cases c)⟩
def SC(M:i<=1048576)(o:∀B A,Pl.look g B=some A->A.aU.length<=i)(E:g.length<=16777216)(d:aj)(a:fY)(cap m t:Nat)(h:0<g.length->a=some ⟨m,t,none⟩/\m<l.heap.size)(c:eJ l m t g):
 Calls prog 51 #[.slice a g.length cap,σ d] l λe U=>KR g d l e U:=by
 have p:μ l (l.alloc (.cells #[.slice a g.length cap,ς,ς,ι 0,ι 0,ι 0] 111)):=ak l _;have F:=Kr cap 2 h c;have z:=Kr cap 0 h c;have D:km ⟨[],[],0,0,0,ς,ς⟩ mA:=⟨rfl,rfl,rfl,rfl,rfl⟩;have G:iB i mA (0+(i+1)):=⟨0,⟨Yh _,λY c=>(by cases c),X0 _,λx s=>(by cases s),λx s=>(by cases s),X0 _,Yh _,Yh _,Yh _⟩,by show 0+(0+(i+1))+(100-0)*(i+1)<=101*(i+1);omega⟩;have W:=qg g d a cap m t (l.alloc (.cells #[.slice a g.length cap,ς,ς,ι 0,ι 0,ι 0] 111)) (λe=>(h e).1) (λS Q=>c.aP p (h (by omega)).2 S Q) E;unfold aK at W;have C:=GX (L0:=l) (bb:=l.heap.size) (vf:=.slice a g.length cap) M o E 3 ax;have R:=aC o;have X:=aC h;go_enter func51,ntmps51;rcases rA (fs:=g) (p:=d) with⟨j,f⟩|⟨k,V,j,f⟩
 ·rw[j]at W;have q:Hid (eA g d={mA with cH:=2}):=aC (by unfold eA;rw[f]);have w:=F.vB (b:={mA with cH:=2}) ⟨rfl,rfl,rfl,rfl,rfl⟩;have r:=F.bS;go_wp2_with (go_at_call 45;refine κ W λT v=>?_;subst v)
  go_ret;exact⟨l.heap.size,rfl,X0 _,by rw[q.u];exact w,r⟩
 rw[j]at W;have H:=R.u _ _ f;have q:Hid (eA g d=kC g 3 mA g[k].aU):=aC (by unfold eA;rw[f]);obtain⟨rfl,Z⟩:=h (by omega);obtain⟨-,O,-⟩:=c k V;unfold aK at O;have P:=C _ _ mA g[k].aU 0 z D rfl H G;have L:¬(k:Int)<0:=by omega
 have K:(k:Int)<g.length:=by omega
 generalize g[k].aU=tx at*;go_wp2_with (first|(go_at_call 45;refine κ W λT v=>?_;subst v)|(go_at_call 69;refine P.mono ?_;rintro e w9⟨⟨J,rfl⟩,y,n,I,N⟩;have w:=n.vB I;have r:=n.bS))
 go_ret;exact⟨l.heap.size,rfl,X0 _,by rw[q.u];exact w,r⟩
def Wv(m:fy)(b:Bk)(j l:Nat)(f:Wk)(o:List (fv))(W:ay)(e:Ending)(c:ay):Prop:=
 ∃a,e=.returned (π a)/\μ W c /\a<c.heap.size/\c.cell? ⟨a,3,none⟩=some (dC j)/\c.cell? ⟨a,4,none⟩=some (dC l)/\
  (j=0->∃p n i k d,eY p c a n m b i k [i] d.length d f.aY 0 0/\d.map (·.x)=f.aT.map (·.1)/\∀g (h:g<f.aY.length),(d.getD f.aY[g] iW).cs=o.getD g [])
def fN.wo{W:ay}{p:List ((Nr×Bool)×az)}(h:fN l W i j g K k m p d f):eY l W i j g K k m [k] (p.map λx=>(⟨x.1.1,x.1.2,x.2,[],ς⟩:Wn)).length (p.map λx=>⟨x.1.1,x.1.2,x.2,[],ς⟩) d.aY f 0:=by
 have F:∀{q:Nat} {w:hZ} {v:Nat×Nat},W.heap[q]?=some (Obj.cells w 9 v)->q<W.heap.size/\q≠i/\∀u∈[k],some q≠u.ownBlock:=λo=>by obtain⟨s,B,E,-⟩:=h.a_ o;exact⟨s,B,λu t=>by rw[Yc.1 t];exact E⟩
 refine⟨h.row,h.bW,h.bS,h.lt,?_,Co h.aY,λq o=>?_,λy D=>?_,λH I _=>?_⟩
 ·have e:(p.map λx=>(⟨x.1.1,x.1.2,x.2,[],ς⟩:Wn)).flatMap jd=p.flatMap ky:=by
   rw[List.flatMap_map];rfl
  rw[e,Yk];exact h.aT
 ·have s:=Yt h.aY q o;exact⟨s.2,by omega,λu t=>by rw[Yc.1 t];exact h.yR o⟩
 ·obtain⟨x,A,rfl⟩:=YC.1 D;refine⟨(h.aH x A).1,λq o=>?_⟩;cases r:x.2 with
  |slice a n c=>
   cases a with
   |none=>rw[show (⟨x.1.1,x.1.2,x.2,[],ς⟩:Wn).vn=x.2 from rfl,r]at o;cases o
   |some z=>rw[show (⟨x.1.1,x.1.2,x.2,[],ς⟩:Wn).vn=x.2 from rfl,r]at o;cases o;have⟨w,v,C⟩:=(h.aH x A).2 (some z) n c z r rfl;exact F C
  |_=>rw[show (⟨x.1.1,x.1.2,x.2,[],ς⟩:Wn).vn=x.2 from rfl,r]at o;cases o
 rw[YT];exact⟨⟨none,0,0,0,rfl,λe=>(by cases e),λJ G=>(by cases G)⟩,λq o=>(by cases o)⟩
def iM.XB(a:iM i K j)(q:i<=1048576)(o:j<=101*(i+1)):nM K:=by
 refine⟨a.fU,λe f=>?_,⟨by have:=a.nl;omega,a.nf,λx h=>by have:=a.nt x h;omega,by have:=a.ns;omega⟩,a.cF,by have:=a.cC;omega,a.cH⟩;have⟨g,k,d,l,r,m⟩:=a.ru e f;exact⟨g,k,d,l,by omega,λc n=>by have:=m.1 c n;omega⟩
theorem F5(d:aj):∀(rs:List Ru) (a:fv),(∀b∈rs,b.nd.length<=2000)->(rs.foldl (λa b=>if dz d b=true then b.nd.foldl dj a else a) a).length<=a.length+rs.length*2000
 |[],a,_=>by simp
 |b::rs,a,h=>by
  rw[YP];have:=h b (Yq ..);have:=F5 d rs (if dz d b=true then b.nd.foldl dj a else a) λq c=>h q (Yp _ c);have:(if dz d b=true then b.nd.foldl dj a else a).length<=a.length+2000:=by
   split
   ·have:=sK b.nd a;omega
   omega
  rw[Ya,l5];omega
def Sl(f:nM K)(g:fy)(b:aj):(de K g b).1.aH.length<=130000:=by
 have e:∀a:fv,a.length<=2000->(mG K b a).length<=130000:=λa m=>by have h:=F5 b K.aG a λd j=>(f.aG d j).nd;have:K.aG.length*2000<=64*2000:=Zs _ f.fU;unfold mG;omega
 unfold de;split
 ·cases l:ki K g b with
  |none=>exact e [] (Yh _)
  |some c=>
   refine e _ ?_;have h:=sK ((K.aG.getD c db).nd.map λn=>cW n (gB ((K.aG.getD c db).tg.headD []) b)) [];rw[Yk,Yr]at h;have:(K.aG.getD c db).nd.length<=2000:=by
    rw[Yf];cases k:K.aG[c]? with
    |none=>exact Yh _
    |some d=>exact(f.aG d (Z5 k)).nd
   omega
 exact e [] (Yh _)
theorem Cd{N:aj->Nv}{f:UInt8->jj}:∀{d:List (aj×Nat)} {a b:fv},qJ N f d a (.inr b)->b.length<=a.length+d.length
 |[],a,b,h=>by have e:(Sum.inr b:(Nat×Nat)⊕fv)=.inr a:=h;cases e;simp
 |c::d,a,b,⟨g,_,h⟩=>by
  split at h
  ·cases h
  split at h
  ·have:=Cd h;rw[Ya];omega
  have:=Cd h;rw[X4,Yx]at this;rw[Ya];omega
def Bb:jk (e++[h])=jk e+h.length:=by unfold jk;rw[Yy,acB];simp
structure pj(L0:ay)(wb bb:Nat)(fs:fy)(b:Bk)(vN vO:az)(t:Wk)(S:(Nat×Nat)⊕List (fv))(i er ln:Nat)(z:Int)(ls:List (fv))(ys:j4)(wr:ay):Prop where
 wo:eY L0 wr wb bb fs b vN vO [vN] ys.length ys t.aY er ln
 nx:ys.map (·.x)=t.aT.map (·.1)
 un:∀j (h:j<ys.length),j∉t.aY.take i->ys[j].cs=[]/\ys[j].vc= ς
 dn:∀j (h:j<t.aY.length),j<i->er=0->(ys.getD t.aY[j] iW).cs=ls.getD j []
 ll:er=0->ls.length=i
 go:er=0->rY (nR b.aX) ((gF b t).drop i) ls S
 st:er≠0->S=.inl (er,ln)
 ok:er=0->ln=0/\z=(jk ls:Int)/\jk ls<=i*110000000
def KQ(N:aj->Nv)(a:List cI)(b:List (fv))(S:(Nat×Nat)⊕List (fv)):(Nat×Nat)⊕fv->Prop
 | .inl e=>S=.inl e
 | .inr c=>rY N a (b++[c]) S
def pj.step{S:(Nat×Nat)⊕List (fv)}{z:Int}{v:List (fv)}{p:j4}(s:pj l i j g K k m d S f 0 0 z v p x)(M:f<d.aY.length)(F:d.aY[f]<p.length)(W:d.aY.Nodup){u:(Nat×Nat)⊕fv}(b:eY l o i j g K k m [k] p.length (p.set d.aY[f] {p.getD d.aY[f] iW with cs:=h,vc:=a }) d.aY c n)(w:DF u c n h)(H:∀E,u =.inr E->E.length<=110000000)(D:∀q,u =.inl q->q.1≠0)(y:KQ (nR K.aX) ((gF K d).drop (f+1)) v S u){N:Int}(T:c =0->N =z+(h.length:Int)):∃Q,pj l i j g K k m d S (f+1) c n N Q (p.set d.aY[f] {p.getD d.aY[f] iW with cs:=h,vc:=a }) o:=by
 have J:(p.set d.aY[f] {p.getD d.aY[f] iW with cs:=h,vc:=a }).length=p.length:=Y7;have U:p.getD d.aY[f] iW=p[d.aY[f]]:=by rw[Yf,X9 F];rfl
 have O:(p.set d.aY[f] {p.getD d.aY[f] iW with cs:=h,vc:=a }).map (·.x)=d.aT.map (·.1):=by rw[afp,<-s.nx];show(p.map (·.x)).set d.aY[f] (p.getD d.aY[f] iW).x=_;rw[U];have:(p.map (·.x))[d.aY[f]]'(by simpa using F)=p[d.aY[f]].x:=YT ..;rw[<-this,adB]
 have X:=Yn M;have P:∀r (t:r<(p.set d.aY[f] {p.getD d.aY[f] iW with cs:=h,vc:=a }).length),r∉d.aY.take (f+1)->(p.set d.aY[f] {p.getD d.aY[f] iW with cs:=h,vc:=a })[r].cs=[]/\(p.set d.aY[f] {p.getD d.aY[f] iW with cs:=h,vc:=a })[r].vc=ς:=λr t G=>by rw[X,Yv,not_or,Yc]at G;rw[acu (λe=>G.2 e.symm)];exact s.un r (by omega) G.1
 have R:∀r (t:r<d.aY.length),r<f->(p.set d.aY[f] {p.getD d.aY[f] iW with cs:=h,vc:=a }).getD d.aY[r] iW=p.getD d.aY[r] iW:=λr t I=>by
  have Z:d.aY[f]≠d.aY[r]:=λe=>by exact aby.1 W r f t M I e.symm
  rw[Yf,E0 Z,<-Yf]
 have aa:(p.set d.aY[f] {p.getD d.aY[f] iW with cs:=h,vc:=a }).getD d.aY[f] iW={p.getD d.aY[f] iW with cs:=h,vc:=a }:=by rw[Yf,O' F];rfl
 match u,w,y,H,D with
 | .inl q,w,y,_,D=>
  have⟨A,C⟩:=w;have B:c ≠0:=by rw[A];exact D q rfl
  exact⟨v,by rw[J];exact b,O,P,λ_ _ _ e=>absurd e B,λe=>absurd e B,λe=>absurd e B,λ_=>by rw[A,C];exact y,λe=>absurd e B⟩
 | .inr E,w,y,H,_=>
  have⟨A,C,e3⟩:=w;subst A C e3;have L:=s.ll rfl;obtain⟨-,V,k2⟩:=s.ok rfl;have hc:=H _ rfl;refine⟨v++[h],by rw[J];exact b,O,P,λr t I _=>?_,λ_=>by rw[X4,L];rfl,λ_=>y,λe=>absurd rfl e,λ_=>⟨rfl,?_,?_⟩⟩
  ·by_cases e:r<f
   ·rw[R r t e,s.dn r t e rfl,Yf,Yf,Zh (by omega)]
   have Y:r=f:=by omega
   subst Y;rw[aa];show h =(v++[h]).getD r [];rw[Yf,YH (by omega),L,ta];rfl
  ·rw[T rfl,V,Bb];omega
  rw[Bb,l5];omega
end
variable {k n p:ay}{l i d e:Nat}{g:fy}{f m:az}{c:Wk}{j:List (fv)}{a:j4}{x:Bk}{G:(Nat×Nat)⊕List (fv)}{H:Int}
def pj.ready(h:pj k l i g x f m c G d 0 0 H j a n)(u:tM x g c)(v:d<c.aY.length)(t:c.aY[d]<a.length):
 xI x a[c.aY[d]].x/\a[c.aY[d]].cs=[]/\a[c.aY[d]].vc=ς/\∃o,qJ (nR x.aX) (fa x a[c.aY[d]].x).sg (fa x a[c.aY[d]].x).aI [] o/\KQ (nR x.aX) ((gF x c).drop (d+1)) j G o:=by
 have r:=u.lt _ (Ym v);have y:a[c.aY[d]].x=c.aT[c.aY[d]].1:=by have p:=Yg (λB=>B[c.aY[d]]?) h.nx;simp only[Za,X9 t,X9 r,T',H9]at p;exact p
 have C:(cA c c.aY[d]).1=c.aT[c.aY[d]].1:=by unfold cA;rw[Yf,X9 r];rfl
 have A:c.aY[d]∉c.aY.take d:=λe=>by
  have⟨w,E,q⟩:=ZD e;rw[adq]at q;have F:w<d:=by simp at E;omega
  exact aby.1 u.d_ w d (by omega) v F q
 refine⟨by rw[y];exact u.sz _ (Ym r),(h.un _ t A).1,(h.un _ t A).2,?_⟩;have s:=h.go rfl;have D:d<(gF x c).length:=by unfold gF;rw[Yk];exact v
 rw[Yu D]at s;have q:(gF x c)[d]=fa x (cA c c.aY[d]).1:=YT ..;rw[q,C,<-y]at s;have⟨o,p,S⟩:=s;refine⟨o,p,?_⟩
 match o,S with
 | .inl e,S=>exact S
 | .inr B,S=>exact S
def pj.aD{wb:Nat}(h:pj k wb l g x f m c G i d e H j a p)(o:μ p n):pj k wb l g x f m c G i d e H j a n:=⟨h.wo.aD o,h.nx,h.un,h.dn,h.ll,h.go,h.st,h.ok⟩
def mr.cell{W:ay}{a:fY}{n r b:Nat}{d:gb}(h:mr W (.slice a n r) d)(k:a=some ⟨b,l,none⟩)(c:Nat)(g:c<d.length):W.cell? ⟨b,l+c,none⟩=some (ι (d[c]:Int)):=by have⟨p,m,o,q,i,f,j⟩:=h;cases i;obtain⟨e,-⟩:=f (by omega);rw[k]at e;cases e;exact j c g
def NT(hT:l<=1048576)(hf:∀bL C,Pl.look g bL=some C->C.aU.length<=l)(bl:g.length<=16777216)(bn:gD (g.map (·.aL))<=1048576)(O X:aj)(a:fY)(cap fb fo:Nat)(ha:0<g.length->a=some ⟨fb,fo,none⟩/\fb<k.heap.size)(hr:eJ k fb fo g)(bx:(eA g O).cH=0->∀K∈(eA g O).aG,K.tg≠[]/\(K.cD=true->(K.tg.headD []).contains 37=true))(hQ:rK (eA g O) g X i d c j):
 Calls prog 15 #[.slice a g.length cap,σ O,σ X] k λe W'=>Wv g (eA g O) i d c j k e W':=by
 unfold σ;have CR:=SC hT hf bl O a cap fb fo ha hr;obtain⟨k0,hG,bR⟩:=IW hf O;have V:=hG.XB hT bR;unfold KR at CR;generalize eA g O=b at*;have bT:=aC bx;have bp:=aC bn;clear ha hr hf bx bn;go_enter func15,ntmps15;rcases hQ with⟨e0,y,T⟩|⟨e0,hQ⟩
 ·subst y T;have r:((b.cH:Int) !=0)=true:=by rw[ZI];omega
  go_upto_region 2 with(first|(go_at_call 51;refine CR.mono ?_;rintro e p⟨A,rfl,bN,hV,ao⟩))
  have c4:=hV.cH;have c5:=hV.cC;have b':=hV.lt;have bX:=ao.alloc ao.size (.cells #[π A,ς,ς,ι (b.cH:Int),ι (b.cC:Int)] 43);have aK:=aF.bq p 43 [π A,ς,ς,ι (b.cH:Int),ι (b.cC:Int)];go_wp2_with fail
  go_ret;exact⟨p.heap.size,rfl,bX,aK.lt,aK.cell 3 (by simp),aK.cell 4 (by simp),λe=>absurd e e0⟩
 have V:=V;have hA0:Hid (∀K∈b.aG,K.tg≠[]/\(K.cD=true->(K.tg.headD []).contains 37=true)):=aC (bT.u e0);generalize hg:(if X=[] then qx b else X)=C at hQ;go_upto_region 2 with(first|(go_at_call 51;refine CR.mono ?_;rintro e p⟨A,rfl,bN,hV,ao⟩))
 have av:μ p (p.alloc (.cells #[π A,ς,ς,ι 0,ι 0] 43)):=ak p _;have hM:fN p (p.alloc (.cells #[π A,ς,ς,ι 0,ι 0] 43)) p.heap.size A g b (ς) (ς) [] jR 0:=⟨aF.bq p 43 [π A,ς,ς,ι 0,ι 0],hV,av,X0 _,rfl,YG _ _ _ _,YG _ _ _ _,λx hx=>(by cases hx)⟩;have bG:=hV.aD av;have cc:=ao.tr av;generalize b2:p.alloc (.cells #[π A,ς,ς,ι 0,ι 0] 43)=wA at*;clear b2 av;have bB:k.heap.size<=p.heap.size:=ao.size;generalize bg:p.heap.size=wb at*;have bj:=aC bg;clear bg;have c4:=bG.cH;rw[e0]at c4;have c0:=hM.row.cell 0 (by simp);simp only[X6]at c0;have cd:=hM.row.lt;have CS:=Qs bG V (λK hr=>(hA0.u K hr).1);go_upto_if 45 with fail
 rename_i K1 be;go_cut [2] from 10 (λgv wx=>gv= σ C/\wx=wA)
 case first=>
  by_cases aq:X=[]
  ·subst aq;rw[Yd rfl]at hg;go_wp2_with (go_at_call 52;refine κ CS λ_ bZ=>?_;subst bZ)
   go_meet
   exact⟨rfl,rfl⟩
  rw[Yb aq]at hg;subst hg;have cf:(X==[])=false:=by rw[Yi];exact aq
  have aW:List.isEmpty X=false:=by cases X with|nil=>exact absurd rfl aq|cons _ _=>rfl
  go_wp2_with fail
  all_goals first
   |exact absurd (show List.isEmpty X=true by assumption) (by rw[aW];decide)|(go_meet;exact⟨rfl,rfl⟩)
 obtain⟨rfl,rfl⟩:=hcut;refine be _ _ ?_;clear be CS c4;have bu:Hid (∃y r,(C=[]/\y=8/\r=jR\/C≠[]/\2000<C.length/\y=5/\r=jR\/C≠[]/\C.length<=2000/\∃f,eH b g f jR C=some (y,r)/\tM b g r)/\((y≠0/\i=y/\d=0)\/(y=0/\100<r.aT.length/\i=5/\d=0)\/(y=0/\r.aT.length<=100/\c=r/\∃S,rY (nR b.aX) (gF b r) [] S/\zr S i d j))):=aC (by
  rcases hQ with⟨o,s,B⟩|⟨o,s,B,h4⟩|⟨o,s,f,q,B,h4,R⟩
  ·exact⟨8,jR,.inl ⟨o,rfl,rfl⟩,.inl ⟨by decide,s,B⟩⟩
  ·exact⟨5,jR,.inr (.inl ⟨o,s,rfl,rfl⟩),.inl ⟨by decide,B,h4⟩⟩
  refine⟨q.1,q.2,.inr (.inr ⟨o,s,f,B,look_size hG bp.u s B⟩),?_⟩;rcases R with R|R|⟨R,h6,h7⟩
  ·exact .inl R
  ·exact .inr (.inl R)
  exact .inr (.inr ⟨R,h6,h4,h7⟩))
 obtain⟨y,r,aZ,bw⟩:=bu.u;clear bu hQ;apply wp_seq_k;intro K2 bC;go_cut [] from 10 (λwx=>∃vN vO Z,Hid (fN p wx wb A g b vN vO Z r y))
 case first=>
  have f3:=hM.row.frozen 3;have c3:=hM.row.cell 3 (by simp);simp only[X6,X7]at c3;rcases aZ with⟨o,s,B⟩|⟨o,s,B,h4⟩|⟨o,s,f,B,h4⟩
  ·subst o s B;have HE:=(hM.cH 8).1;go_wp2_with fail
   go_meet
   exact⟨_,_,_,HE⟩
  ·subst B h4;have HE:=(hM.cH 5).1;have aW:List.isEmpty C=false:=by cases C with|nil=>exact absurd rfl o|cons _ _=>rfl
   have b7:(2000:Int)<(List.length C:Int):=by omega
   go_wp2_with fail
   all_goals go_meet
   all_goals exact⟨_,_,_,HE⟩
  have aW:List.isEmpty C=false:=by cases C with|nil=>exact absurd rfl o|cons _ _=>rfl
  have b7:¬(2000:Int)<(List.length C:Int):=by omega
  have CL:=H8 (L0:=p) (wb:=wb) (bb:=A) (b:=b) (fs:=g) (P:=1304704) (M:=1310000) ⟨V,hA0.u,bl,λname x hx=>Ye ((sU _).2.2 x hx) (AP hG bp.u name),Sl V g,by decide,by decide⟩ f _ _ _ _ jR C (y,r) hM (by omega) B h4.len ax;go_wp2_with (go_at_call 53;refine CL.mono ?_;rintro e w5⟨⟨ev,rfl⟩,a0,ce,cb,bf,-⟩;have HE:=bf;clear bf)
  all_goals go_meet
  all_goals exact⟨_,_,_,HE⟩
 obtain⟨vN,vO,Z,J⟩:=hcut;refine bC _ _ ?_;clear bC;apply wp_seq_k;intro K3 br;have ar:Z.length=r.aT.length:=by rw[<-J.u.nx,Yk]
 obtain⟨aN,cN,bU⟩:=dR J.u.aT;subst bU;have k1:=J.u.row.cell 1 (by simp);have F:=J.u.row.cell 3 (by simp);have f3:=J.u.row.frozen 3;simp only[X6,X7]at k1 F;go_cut [] from 10 (λwx=>∃vN vO Z T,Hid (fN p wx wb A g b vN vO Z r T)/\Hid ((y=0/\r.aT.length<=100/\T=0)\/(T≠0/\i=T/\d=0)))
 case first=>
  by_cases L:y=0
  ·subst L;by_cases hn:100<r.aT.length
   ·have HE:=(J.u.cH 5).1;have HF:Hid ((0=0/\r.aT.length<=100/\5=0)\/(5≠0/\i=5/\d=0)):=aC (by
     rcases bw with⟨o,-⟩|⟨-,-,s⟩|⟨-,o,-⟩
     ·exact absurd rfl o
     ·exact .inr ⟨by decide,s⟩
     omega)
    go_wp2_with fail
    go_meet
    exact⟨_,_,_,5,HE,HF⟩
   go_wp2_with fail
   go_meet
   exact⟨_,_,_,0,J,aC (Or.inl ⟨by trivial,by omega,by trivial⟩)⟩
  have te:((y:Int)==0)=false:=by rw[Yi];omega
  have HF:Hid ((y=0/\r.aT.length<=100/\y=0)\/(y≠0/\i=y/\d=0)):=aC (by
   rcases bw with⟨-,s⟩|⟨o,-⟩|⟨o,-⟩
   ·exact .inr ⟨L,s⟩
   ·exact absurd o L
   exact absurd o L)
  go_wp2_with fail
  go_meet
  exact⟨_,_,_,y,J,HF⟩
 obtain⟨aQ,b9,Y,T,G,a7⟩:=hcut;refine br _ _ ?_;clear br k1 F f3 ar J;by_cases hz:T=0
 ·subst hz;obtain⟨o,s,-⟩:=a7.u.resolve_right (λq=>q.1 rfl);have bc:tM b g r:=by
   rcases aZ with⟨-,q,-⟩|⟨-,-,q,-⟩|⟨-,-,f,-,q⟩
   ·omega
   ·omega
   exact q
  obtain⟨S,bF,bi,rfl⟩:∃S,rY (nR b.aX) (gF b r) [] S/\zr S i d j/\c=r:=by
   rcases bw with⟨q,-⟩|⟨-,q,-⟩|⟨-,-,q,S,q1,q2⟩
   ·exact absurd o q
   ·omega
   exact⟨S,q1,q2,q⟩
  have ar:Y.length=c.aT.length:=by rw[<-G.u.nx,Yk]
  have bz:=G.u.wo;have HX:Hid ((Y.map λx=>(⟨x.1.1,x.1.2,x.2,[],ς⟩:Wn)).map (·.x)=c.aT.map (·.1)):=aC (by rw[k6,<-G.u.nx,k6];rfl);have HU:Hid (∀I (h:I<(Y.map λx=>(⟨x.1.1,x.1.2,x.2,[],ς⟩:Wn)).length),((Y.map λx=>(⟨x.1.1,x.1.2,x.2,[],ς⟩:Wn))[I]).cs=[]/\((Y.map λx=>(⟨x.1.1,x.1.2,x.2,[],ς⟩:Wn))[I]).vc= ς):=aC λI h=>by rw[YT];exact⟨rfl,rfl⟩
  have b5:(Y.map λx=>(⟨x.1.1,x.1.2,x.2,[],ς⟩:Wn)).length=c.aT.length:=by rw[Yk,ar]
  obtain⟨aO,Q,aS⟩:=dR G.u.aY;subst aS;generalize (Y.map λx=>(⟨x.1.1,x.1.2,x.2,[],ς⟩:Wn))=ys at*;have bP:Hid (pj p wb A g b aQ (.slice aO c.aY.length Q) c S 0 0 0 0 [] ys wc):=aC ⟨bz,HX.u,λI h _=>HU.u I h,λI _ hj=>absurd hj (by omega),λ_=>rfl,λ_=>bF,λe=>absurd rfl e,λ_=>⟨rfl,rfl,Yh _⟩⟩;have aw:=aC bc;have bE:=bi;clear bz HX HU G a7 aZ bF bi bc ar o;go_wp2_with fail
  go_loopw [8,9] (λmv iv wr=>∃(m e3 l3:Nat) (z:Int) (au:List (fv)) (t:j4),mv= ι z/\iv= ι m/\m<=c.aY.length/\t.length=c.aT.length/\Hid (pj p wb A g b aQ (.slice aO c.aY.length Q) c S m e3 l3 z au t wr)) (λ_ iv _=>c.aY.length-aV iv)
  case atStart=>exact⟨0,0,0,0,[],ys,rfl,rfl,Yh _,b5,bP⟩
  obtain⟨m,e3,l3,z,au,t,rfl,rfl,hi,a5,v⟩:=hrel;have k1:=v.u.wo.row.cell 1 (by simp);have k2:=v.u.wo.row.cell 2 (by simp);have F:=v.u.wo.row.cell 3 (by simp);have N:=v.u.wo.row.cell 4 (by simp);simp only[X6,X7,dC]at k1 k2 F N;have a3:=v.u.wo.row.lt;have ah:Hid (∀w,μ p w->μ k w):=aC λw hw=>ao.trans (hw.mono (by rw[bj.u];exact bB));by_cases L:e3=0
  ·subst L;obtain⟨bW,ag,bM⟩:=v.u.ok rfl;subst bW;by_cases hk:m<c.aY.length
   ·have ti:(m:Int)<c.aY.length:=by omega
    have b8:=aw.u.lt _ (Ym hk);have al:c.aY[m]<t.length:=by omega
    obtain⟨an,bm,bs,S',hO,bk⟩:=v.u.ready aw.u hk al;obtain⟨gN,ae,b3,-,-⟩:=dv v.u.wo.aT (by omega);obtain⟨aa,ca,bO,oO,bQ,bt,-⟩:=v.u.wo.aY;have aP:=(bt (by omega)).1;cases bQ;have a_:=aC aP;have aR:Hid (∀w a0 os W bv E D,eY p w wb A g b a0 (.slice aO c.aY.length Q) os W bv c.aY E D ->w.χ bO (oO+m)=some (ι (c.aY[m]:Int))):=aC λw a0 os W bv E D hw=>hw.aY.cell a_.u m hk;have o0:=aR.u _ _ _ _ _ _ _ v.u.wo;rw[aP]at k2;subst b3;have CO:Hid (∀w,μ wr w->Calls prog 54 #[π wb,.pointer (some (η gN (c.aY[m]*7)))] w λe W'=>La p wb A g b (ξ gN t.length ae) (.slice aO c.aY.length Q) t c.aY[m] c.aY S' e W'):=aC λw hb=>OI (v.u.wo.aD hb) al bm bs V (SA an) an.Ls (by have:=(sU t[c.aY[m]].x.aH).1;have:=an.sum;omega) hO;have a8:∀q,S' = .inl q->q.1≠0:=λq e=>by subst e;exact yO hO
    have a9:∀am,S' = .inr am->am.length<=110000000:=λam e=>by
     subst e;have o:=Cd hO;have s:(fa b t[c.aY[m]].x).aI.length<=110000000:=by
      unfold fa;show(match t[c.aY[m]].x.gW with|none=>[]|some m=>(b.aG.getD m db).cs).length<=_;split
      ·exact Yh _
      rename_i I hj;have a':=an.Ls I hj;rw[Yf,X9 a'];exact(V.aG _ (Ym a')).cs
     rw[Yr]at o;omega
    have bI:Hid (∀(w':ay) (H:fv) (U:az) (E D:Nat) (z':Int),eY p w' wb A g b (ξ gN t.length ae) (.slice aO c.aY.length Q) [ξ gN t.length ae] t.length (t.set c.aY[m] {t.getD c.aY[m] iW with cs:=H,vc:=U }) c.aY E D ->DF S' E D H ->(E =0->z' =z+(H.length:Int))->∃ai,pj p wb A g b (ξ gN t.length ae) (.slice aO c.aY.length Q) c S (m+1) E D z' ai (t.set c.aY[m] {t.getD c.aY[m] iW with cs:=H,vc:=U }) w'):=aC λw' H U E D z' o s B=>v.u.step hk al aw.u.d_ o s a9 a8 bk B;have b6:=aC a9
    have ch:m<=100:=by have o:=aw.u.ol;omega
    have bJ:c.aY[m]≠t.length:=by omega
    clear an bm bs hO bk a9 bt aP;generalize bK:c.aY[m]=kk at*;clear bK;have bY:jk au<=11000000000:=by omega
    go_upto_region 19 with fail
    go_region_held3 (λw'=>w'.χ wb 1=some (ξ gN t.length ae)/\w'.χ wb 2=some (.slice (some (η bO oO)) c.aY.length Q)/\w'.χ bO (oO+m)=some (ι (kk:Int))) (first|with_reducible exact⟨k1,k2,o0⟩|with_reducible exact⟨bD,a4,bV⟩|go_keep) (first|(go_at_call 54;refine(CO.u _ (X5 _ wr).drew).mono ?_;rintro e w5⟨⟨ev,rfl⟩,H,U,E,D,ac,bo⟩;have bD :=ac.row.cell 1 (by simp);have a4 :=ac.row.cell 2 (by simp);simp only[X6,X7]at bD a4;rw[a_.u]at a4;have bV :=aR.u _ _ _ _ _ _ _ ac;have aM:=(ac.aI kk (by rw[Y7];exact al) bJ).1;rw[H4]at aM;obtain⟨a6,c6,bd⟩:=aM.jm;have n6:=gY (g:=gN) (n:=t.length) (cap:=ae) (by have:=ac.aT;rw[Y7]at this;exact this) (kk*7+6) U (by rw[qA (f:=jd) (λ_=>rfl) _ kk 6 (by rw[Y7];exact al) (by decide),H4];rfl);rw[show U = .slice a6 H.length c6 from bd]at n6;clear aM bd))
    clear k1 k2 F N o0 CO aR;by_cases ba:E =0
    ·subst ba;have b_:H.length<=110000000:=by
      have o:=bo
      match S',o,a8,b6.u with
      | .inl q,o,s,_=>exact absurd o.1.symm (s q rfl)| .inr am,o,_,B=>rw[o.2.2];exact B am rfl
     obtain⟨ai,ap⟩:=bI.u w5 H U 0 D (z+(H.length:Int)) ac bo (λ_=>rfl);have HN:=aC ap;clear ap;subst ag;go_wp2_with fail
     go_quiet (fail)
     go_wp2_with fail
     first
      |exact⟨⟨m+1,0,D,_,ai,_,rfl,by go_num,by omega,by rw[Y7];exact a5,aC (HN.u.aD ⟨rfl,rfl,rfl,X0 _,λ_ _=>rfl⟩)⟩,by simp only[aV];omega⟩
      |(go_roundw;exact⟨m+1,0,D,_,ai,_,rfl,by go_num,by omega,by rw[Y7];exact a5,aC (HN.u.aD ⟨rfl,rfl,rfl,X0 _,λ_ _=>rfl⟩)⟩;simp only[aV];omega)
    clear ag bM bY;go_wp2_with fail
    go_quiet (fail)
    go_wp2_with fail
    have b4:=λz'=>bI.u w5 H U E D z' ac bo (λe=>absurd e ba);go_roundw
    case rel=>obtain⟨ai,ap⟩:=b4 _;exact⟨m+1,E,D,_,ai,_,rfl,by go_num,by omega,by rw[Y7];exact a5,aC (ap.aD ⟨rfl,rfl,rfl,X0 _,λ_ _=>rfl⟩)⟩
    simp only[aV];omega
   have ti:¬(m:Int)<c.aY.length:=by omega
   have aE:S=.inr au:=by have:=v.u.go rfl;rw[Zz (by unfold gF;rw[Yk];omega)]at this;exact this
   have iX:=bE;rw[aE]at iX;obtain⟨q1,q2,q3⟩:=iX;subst q1 q2;by_cases R:500<jk j
   ·have h6:i=5:=by
     rcases q3 with q|q
     ·exact q.2
     omega
    subst h6;have t5:(500:Int)<z:=by rw[ag];omega
    have a1:=v.u.wo.bh 3 5 0 5 (.inl ⟨rfl,rfl,rfl⟩);have aB:=a1.row;have ab:=ah.u _ a1.bS;have f3:=v.u.wo.row.frozen 3;unfold dC at aB ab;clear a1 ag;go_wp2_with fail
    go_ret;exact⟨wb,rfl,ab,aB.lt,aB.cell 3 (by simp),aB.cell 4 (by simp),λe=>(by cases e)⟩
   have h6:i=0:=by
    rcases q3 with q|q
    ·omega
    exact q.2
   subst h6;have t5:¬(500:Int)<z:=by rw[ag];omega
   have ab:=ah.u _ v.u.wo.bS;clear ag;go_wp2_with fail
   go_ret;exact⟨wb,rfl,ab,a3,F,N,λ_=>⟨p,A,aQ,_,t,v.u.wo,v.u.nx,λI hj=>v.u.dn I hj (by omega) rfl⟩⟩
  have te:((e3:Int)==0)=false:=by rw[Yi];omega
  have aE:=v.u.st L;have iX:=bE;rw[aE]at iX;obtain⟨q1,q2⟩:=iX;have ab:=ah.u _ v.u.wo.bS;have af:Hid (i=e3/\d=l3):=aC ⟨q1,q2⟩;clear q1 q2 aE;by_cases hk:m<c.aY.length
  ·have ti:(m:Int)<c.aY.length:=by omega
   go_wp2_with fail
   go_ret;exact⟨wb,rfl,ab,a3,by rw[F,af.u.1];rfl,by rw[N,af.u.2];rfl,λe=>absurd (af.u.1.symm.trans e) L⟩
  have ti:¬(m:Int)<c.aY.length:=by omega
  go_wp2_with fail
  go_ret;exact⟨wb,rfl,ab,a3,by rw[F,af.u.1];rfl,by rw[N,af.u.2];rfl,λe=>absurd (af.u.1.symm.trans e) L⟩
 obtain⟨-,s,B⟩:=a7.u.resolve_left (λq=>hz q.2.2);subst s B;have te:((i:Int)==0)=false:=by rw[Yi];omega
 obtain⟨aO,Q,aS⟩:=dR G.u.aY;subst aS;have k2:=G.u.row.cell 2 (by simp);have F:=G.u.row.cell 3 (by simp);have N:=G.u.row.cell 4 (by simp);simp only[X6,X7]at k2 F N;have bH:=G.u.row.lt;have ah:Hid (μ k wc):=aC (ao.trans (G.u.bS.mono (by rw[bj.u];exact bB)));go_wp2_with fail
 go_loopw [8,9] (λmv iv wr=>mv= ι 0/\iv= ι 0/\wr=wc) (λ_ _ _=>0)
 case atStart=>exact⟨rfl,rfl,rfl⟩
 obtain⟨rfl,rfl,b0⟩:=hrel;subst b0;by_cases ho:0<r.aY.length
 ·go_wp2_with fail
  go_ret;exact⟨wb,rfl,ah.u,bH,F,N,λe=>absurd e hz⟩
 go_wp2_with fail
 go_ret;exact⟨wb,rfl,ah.u,bH,F,N,λe=>absurd e hz⟩
