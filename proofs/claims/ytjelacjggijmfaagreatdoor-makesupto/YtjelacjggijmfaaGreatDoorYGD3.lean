/- . -/
import Derived.Test.YtjelacjggijmfaaGreatDoorYGD2
set_option linter.all false
set_option maxHeartbeats 4000000
set_option maxRecDepth 100000
namespace Go.Proofs.YtjelacjggijmfaaGreatDoor
open Pl Mk Cp Proofs.Tryz
open RowKit MapKept ChangeMaps Maps
variable {d j:fv}{g bf bi M o k er:Nat}{f:dr}{b e ve v3:az}{W X a w Y:ay}{F G n:dS}{c:Ad}{rb rb':Nat->Nat}{s p:St}{ef:ga}{fs:fy}{rec:St->aj->Nat×Nat×St}{l:f'}
def Tryz.JH:(Tryz.prog.info? 265).map (λa=>(a.zero,a.size,a.bytes))=some (some (.pointer none),1,8):=by kernel_rfl
def Jl(c:Nat->Nat)(b:Nat):∀u∈[dE c b],u.oneCell' =true:=by intro u a;rw[Yc]at a;subst a;rfl
theorem Bg:∀(a:fv) (h:0<a.length),a.headD []=a[0]
 |[],h=>by simp at h
 |x::b,_=>rfl
section
def dU.fr(h:dU W F b d)(a:Fr F G W X):dU X G b d:=h.same a.tn.size (λk v e=>⟨a.tn.block k v (λq=>q e),a.fS k v e⟩)
def dU.aD(h:dU W F b d)(a:μ W X):dU X F b d:=h.fr (Fr.aD a)
def iz.aD{a:jq}{v:gb}(h:iz W F a b rb v)(d:μ W X)(f:∀k,F k=some a->k<W.heap.size):iz X F a b rb v:=h.same (λk e=>⟨d.block k (f k e),e⟩)
structure zG(W:ay)(F:dS)(c:Ad)(rb:Nat->Nat)(s:St)(i:Nat)(tg:fv)(j:Nat)(X:ay):Prop where
 fF:∃G,bE X G c rb ((tg.take j).foldl (d' i) s)/\Fr F G W X
def Hf(d:Nat)(s:St)(a:fv)(b:Nat)(h:b<a.length):(a.take (b+1)).foldl (d' d) s=d' d ((a.take b).foldl (d' d) s) a[b]:=by rw[Yn h,r'];rfl
def JE{o:aj}(h:bE W F c rb s)(A:g<s.aG.length)(d:bF W c.bt f)(p:f.length<=s.tl)(i:∀n,iz W F (.qS n) ((cG f n).getD (ς)) rb (s.of n))(j:(cG f o).getD (ς)=e)(B:s.tl<1073741824)(m:X.ownsRow 0 265 1 b ((s.of o).length+1) ((s.of o).map (dE rb)++[dE rb g]))(a:W.grownBy X e.ownBlock)(x:b.ownBlock=e.ownBlock\/b.ownBlock=some W.heap.size):
 ∃Y,(Instr.mapUpdate 139 (.map (some c.bt)) (σ o) b).run prog X=.ok () Y/\∃G,bE Y G c rb (d' g s o)/\Fr F G W Y:=by
 have l:=i o;rw[j]at l;have y:some c.bt≠e.ownBlock:=λv=>by have⟨D,C,q⟩:=dZ l.1 c.bt v.symm;have⟨E,k,t,_⟩:=d;rw[t]at q;cases q
 have⟨Y,u,r,z⟩:=(d.kept a y).put (P:=prog) ab3 Yj (by unfold maxLen;omega) o b;exact⟨Y,u,_,h.W9 A p i j m a x z r⟩
def yJ(h:bF W c.bt f)(a:aj):(Instr.lookup 139 (.map (some c.bt)) (σ a) false).run prog W=.ok ((cG f a).getD (ς)) W:=by have:=h.look (P:=prog) ab3 Yj (yl W) a false;simpa [aK]using this
def MJ(b:Nat)(a:Rl)(h:bE W F c rb s)(hr:s.aG[b]?=some a)(aS:a.tg≠[])(a':s.tl+a.tg.length<=1073741824)(aE:∀n,(s.of n).length<=s.tl):
 Calls prog 232 #[π c.bb,dE rb b] W λe W'=>e=.returned (.tuple #[])/\∃G,bE W' G c rb (mD s a.tg b)/\Fr F G W W':=by
 unfold π;have⟨i0,aA,aB,aH,aw⟩:=Y1 Tryz.JH;have ap:=(Yl.1 hr).1;obtain⟨vp,hB,-⟩:=h.bW;obtain⟨vt,vn,vc,q1,X,-,-⟩:=h.aG b a hr;obtain⟨-,q⟩|⟨tb,tO,tc,rfl,a0,aZ,au,aI⟩:=X
 ·exact absurd q aS
 have X:dU W F (.slice (some (η tb tO)) a.tg.length tc) a.tg:=.inr ⟨tb,tO,tc,rfl,a0,aZ,au,aI⟩;have av:=Y5.2 aS;have e0:=q1.cell? (i:=0) rfl;have b2:=aF.cell? (i:=2) hB rfl;have f2:=aF.frozen hB 2;unfold aK at b2;have r:=au 0 a.tg[0] (X9 av);unfold aK at r;rw[ZH]at r;have ah:=Bg _ av;have aX:rb b≠c.bb:=λe=>by have:=h.lE b ap;rw[e,h.lQ]at this;cases this
 clear au aI;by_cases H:s.first=[]
 ·have aT:s.first.isEmpty=true:=by rw[H];rfl
  have ae:Hid (mD s a.tg b=a.tg.foldl (d' b) {s with first:=a.tg[0]}):=by show _=_;unfold mD;rw[Yd H,ah]
  clear ah H;have hT:=h.Vk a.tg[0];unfold aK at hT;have e1:=(aF.dI q1 aX 2 (σ a.tg[0])).cell? (i:=0) rfl;have J:zG W F c rb {s with first:=a.tg[0]} b a.tg 0 (W.ψ c.bb 2 (σ a.tg[0])):=⟨F,hT⟩;clear hT;generalize a.tg[0]=A at*;go_in;unfold dE;go_wp2
  go_loopw [25] (λB wr=>∃d:Nat,B=ι d/\d<=a.tg.length/\zG W F c rb {s with first:=A} b a.tg d wr) (λB _=>a.tg.length-aV B)
  case atStart=>exact⟨0,rfl,by omega,J⟩
  clear J e0 b2 f2 r;obtain⟨d,rfl,a_,M⟩:=hrel;by_cases l:d<a.tg.length
  ·have t1:(d:Int)<a.tg.length:=by omega
   have t0:(0:Int)<=d:=by omega
   have⟨G,i,x⟩:=M.fF;obtain⟨aU,p,-⟩:=i.bW;have d3:=aF.cell? (i:=3) p rfl;have aq:=X.fr x;obtain⟨q,-⟩|⟨aP,aL,aW,q,k1,k2,K,-⟩:=aq
   ·cases q
   cases q;have r:=K d a.tg[d] (X9 l);unfold aK at r;have⟨S,j,ak,Q⟩:=i.iL;have⟨a1,R,a3,a4,a5,a6,a7,a8,o,N⟩:=qh b (a.tg.take d) {s with first:=A};have w:=Hf b {s with first:=A} a.tg d l;have C:(a.tg.take d).length=d:=by rw[YL];omega
   have ai:∀n,(((a.tg.take d).foldl (d' b) {s with first:=A}).of n).length<=s.tl+d:=λn=>by have:=N aE n;rw[C]at this;exact this
   have aO:((a.tg.take d).foldl (d' b) {s with first:=A}).tl=s.tl+d:=by rw[o,C]
   have al:b<((a.tg.take d).foldl (d' b) {s with first:=A}).aG.length:=by rw[R];exact ap
   clear a1 R a3 a4 a5 a6 a7 a8 o N C;have ab:=aC w;clear w K;generalize a.tg[d]=g at*;generalize (a.tg.take d).foldl (d' b) {s with first:=A}=T at*;have aM:=ai g;have f:=(((X5 wr.heap.size wr).drew).alloc ax (.cells #[dE rb b] 265));have an:=yJ (W:=wr.drew) (j.aD (X5 _ wr).drew) g;have E:=yJ (W:=wr.drew.alloc (.cells #[dE rb b] 265)) (j.aD f) g;obtain⟨v,m⟩:∃v,v=(cG S g).getD (ς):=⟨_,rfl⟩;rw[<-m]at an E;have HL:=j.aD f;have Y:=i.aD f;have V:∀n,iz (wr.drew.alloc (.cells #[dE rb b] 265)) G (.qS n) ((cG S n).getD (ς)) rb (T.of n):=λn=>(Q n).aD f (λk e=>i.lt e);have P:=aC (m▸(V g).1);have af:=x.trans (Fr.aD f);have HV:=aC m.symm;have L:=aF.bq wr.drew 265 [dE rb b];have aN:(Instr.lookup 139 (.map (some c.bt)) (σ g) false).run prog (wr.alloc (.cells #[π (rb b)] 265)).drew=.ok v (wr.alloc (.cells #[π (rb b)] 265)).drew:=E;clear E;have t:=aF.aD p f;have dY:=aF.cell? (i:=3) t rfl;clear j Q i x f m p;go_wp2
   go_region_held_law (λw'=>w'.χ c.bb 3=some (.map (some c.bt))) (first|exact d3|exact dY|exact d6|exact d7) (first|(refine qZ rfl (.tmp 39) (.tmp 41) 138 rfl 0 265 i0 _ 1 8 ael aA aB aH aw rfl (by decide) v (T.of g).length _ (by rfl) P (η wr.heap.size 0) 1 1 [dE rb b] (by rfl) (by rfl) (λd u l=>by rw[jx];exact L.cell? l) (Jl rb b) (by unfold maxLen;omega) (by omega) (Yh _) ?_;intro v6 w6 O y U;have⟨w7,aY,ar⟩:=JE Y al HL ak V HV (by omega) O y U;have d6:=aF.cell? (i:=3) (aF.grown t y (lT t P (by decide))) rfl;obtain⟨G7,z,I⟩:=ar;obtain⟨aR,Z,-⟩:=z.bW;have d7:=aF.cell? (i:=3) Z rfl;clear Z O y U))
   all_goals go_wp2
   all_goals go_roundw
   all_goals first
    |exact⟨d+1,by go_num,by omega,⟨G7,by rw[ab.u];exact z,af.trans I⟩⟩
    |(simp only[aV];omega)
  have ag:d=a.tg.length:=by omega
  subst ag;have t1:¬(a.tg.length:Int)<a.tg.length:=by omega
  have D:=M.fF;rw[YR]at D;go_wp2
  go_end0
  exact⟨rfl,by rw[ae.u];exact D⟩
 have aT:s.first.isEmpty=false:=by rw[<-E3,ae0];exact H
 have ae:Hid (mD s a.tg b=a.tg.foldl (d' b) s):=by show _=_;unfold mD;rw[Yb H]
 clear ah H;have J:zG W F c rb s b a.tg 0 W:=⟨F,h,Fr.refl _ _⟩;go_in;unfold dE;go_wp2
 go_loopw [25] (λB wr=>∃d:Nat,B=ι d/\d<=a.tg.length/\zG W F c rb s b a.tg d wr) (λB _=>a.tg.length-aV B)
 case atStart=>exact⟨0,rfl,by omega,J⟩
 clear J e0 b2 f2 r;obtain⟨d,rfl,a_,M⟩:=hrel;by_cases l:d<a.tg.length
 ·have t1:(d:Int)<a.tg.length:=by omega
  have t0:(0:Int)<=d:=by omega
  have⟨G,i,x⟩:=M.fF;obtain⟨aU,p,-⟩:=i.bW;have d3:=aF.cell? (i:=3) p rfl;have aq:=X.fr x;obtain⟨q,-⟩|⟨aP,aL,aW,q,k1,k2,K,-⟩:=aq
  ·cases q
  cases q;have r:=K d a.tg[d] (X9 l);unfold aK at r;have⟨S,j,ak,Q⟩:=i.iL;have⟨a1,R,a3,a4,a5,a6,a7,a8,o,N⟩:=qh b (a.tg.take d) s;have w:=Hf b s a.tg d l;have C:(a.tg.take d).length=d:=by rw[YL];omega
  have ai:∀n,(((a.tg.take d).foldl (d' b) s).of n).length<=s.tl+d:=λn=>by have:=N aE n;rw[C]at this;exact this
  have aO:((a.tg.take d).foldl (d' b) s).tl=s.tl+d:=by rw[o,C]
  have al:b<((a.tg.take d).foldl (d' b) s).aG.length:=by rw[R];exact ap
  clear a1 R a3 a4 a5 a6 a7 a8 o N C;have ab:=aC w;clear w K;generalize a.tg[d]=g at*;generalize (a.tg.take d).foldl (d' b) s=T at*;have aM:=ai g;have f:=(((X5 wr.heap.size wr).drew).alloc ax (.cells #[dE rb b] 265));have an:=yJ (W:=wr.drew) (j.aD (X5 _ wr).drew) g;have E:=yJ (W:=wr.drew.alloc (.cells #[dE rb b] 265)) (j.aD f) g;obtain⟨v,m⟩:∃v,v=(cG S g).getD (ς):=⟨_,rfl⟩;rw[<-m]at an E;have HL:=j.aD f;have Y:=i.aD f;have V:∀n,iz (wr.drew.alloc (.cells #[dE rb b] 265)) G (.qS n) ((cG S n).getD (ς)) rb (T.of n):=λn=>(Q n).aD f (λk e=>i.lt e);have P:=aC (m▸(V g).1);have af:=x.trans (Fr.aD f);have HV:=aC m.symm;have L:=aF.bq wr.drew 265 [dE rb b];have aN:(Instr.lookup 139 (.map (some c.bt)) (σ g) false).run prog (wr.alloc (.cells #[π (rb b)] 265)).drew=.ok v (wr.alloc (.cells #[π (rb b)] 265)).drew:=E;clear E;have t:=aF.aD p f;have dY:=aF.cell? (i:=3) t rfl;clear j Q i x f m p;go_wp2
  go_region_held_law (λw'=>w'.χ c.bb 3=some (.map (some c.bt))) (first|exact d3|exact dY|exact d6|exact d7) (first|(refine qZ rfl (.tmp 39) (.tmp 41) 138 rfl 0 265 i0 _ 1 8 ael aA aB aH aw rfl (by decide) v (T.of g).length _ (by rfl) P (η wr.heap.size 0) 1 1 [dE rb b] (by rfl) (by rfl) (λd u l=>by rw[jx];exact L.cell? l) (Jl rb b) (by unfold maxLen;omega) (by omega) (Yh _) ?_;intro v6 w6 O y U;have⟨w7,aY,ar⟩:=JE Y al HL ak V HV (by omega) O y U;have d6:=aF.cell? (i:=3) (aF.grown t y (lT t P (by decide))) rfl;obtain⟨G7,z,I⟩:=ar;obtain⟨aR,Z,-⟩:=z.bW;have d7:=aF.cell? (i:=3) Z rfl;clear Z O y U))
  all_goals go_wp2
  all_goals go_roundw
  all_goals first
   |exact⟨d+1,by go_num,by omega,⟨G7,by rw[ab.u];exact z,af.trans I⟩⟩
   |(simp only[aV];omega)
 have ag:d=a.tg.length:=by omega
 subst ag;have t1:¬(a.tg.length:Int)<a.tg.length:=by omega
 have D:=M.fF;rw[YR]at D;go_wp2
 go_end0
 exact⟨rfl,by rw[ae.u];exact D⟩
end
theorem FM:∀{a b:fv},(a.map λd=>(⟨d.toArray⟩:aA))=b.map (λd=>(⟨d.toArray⟩:aA))->a=b
 |[],[],_=>rfl|[],_::_,h=>by cases h
 |_::_,[],h=>by cases h
 |x::a,y::b,h=>by simp only[YE,ob,ByteArray.mk.injEq]at h;rw[FM h.2];have:=Yg Array.toList h.1;simp only at this;rw[this]
def Pd(g d:fv)(j n v l m r:Nat)(w:ay)(B:eE w j n g)(x:eE w l m d)(C:g.length<=1073741824)(D:d.length<=1073741824):
 γ 228 #[.slice (some (η j n)) g.length v,.slice (some (η l m)) d.length r] w (.bool (decide (g=d))):=by
 have u:∀(b o:Nat) (i:fv),eE w b o i->∀h,h<(i.map λa=>(⟨a.toArray⟩:aA)).length->w.cell? ⟨b,o+h,none⟩=some (.string ((i.map λa=>(⟨a.toArray⟩:aA)).getD h ByteArray.empty)):=λb o i z h p=>by rw[Yk]at p;rw[z h i[h] (X9 p)];simp[aK,p]
 refine(Any.slices_Equal_string Tryz.VR j n g.length v l m d.length r (g.map λa=>⟨a.toArray⟩) (d.map λa=>⟨a.toArray⟩) w (by simp) (by simp) (by omega) (by omega) (u j n g B) (u l m d x)).mono ?_;rintro e t⟨rfl,q,rfl⟩;refine⟨?_,below_drewN w q⟩;have A:(g.map λa=>(⟨a.toArray⟩:aA)).take g.length=g.map λa=>⟨a.toArray⟩:=by rw[<-Yk (f:=λa=>(⟨a.toArray⟩:aA)),YR]
 have y:(d.map λa=>(⟨a.toArray⟩:aA)).take d.length=d.map λa=>⟨a.toArray⟩:=by rw[<-Yk (f:=λa=>(⟨a.toArray⟩:aA)),YR]
 rw[A,y];congr 2;rw[T8];exact⟨FM,λe=>by rw[e]⟩
section
def Mi(g m p h:Nat)(r t:az)(a:fv)(x:aj)(b:a[0]?=some x)(l:aF W g 273 [.slice (some ⟨h,m,none⟩) a.length p,r,t])(d:eE W h m a)(f:dq W)(q:x.length<=4294967200):
 Calls prog 231 #[π g] W λe v=>e=.returned (.bool (dc x))/\v =W:=by
 have:=l.cell? (i:=0) rfl;have j:=d 0 x b;unfold aK at j;rw[ZH]at j;have:=(Yl.1 b).1
 go_in;go_wp2_with (go_at_call 227;refine (Ex x W f q).mono ?_;rintro e z⟨rfl,rfl⟩)
 go_ret;exact⟨rfl,rfl⟩
def dU.Du(h:X.ownsRow g 9 1 b d.length (d.map aK))(p:∀k,g<=k->k<X.heap.size->F k=none):dU X F b d:=by
 obtain⟨a,v⟩|⟨B,c,j,a,v,f,n⟩:=h.2
 ·exact .inl ⟨a,ZZ v⟩
 have e:=(X8.1 f).1;refine .inr ⟨B,0,c,a,e,p B v e,λm x i=>?_,⟨j,_,f⟩,n.1⟩;rw[a]at h;have:=lI h m (by rw[Yk];exact ((Yl.1 i).1));rw[YO,this,YT,(Yl.1 i).2]
def bE.out(h:bE W F c rb s)(a:W.heap.size<=k):F k=none:=by
 cases e:F k with
 |none=>rfl|some b=>have:=h.lt e;omega
def dU.XN{a:fY}{n k:Nat}(h:dU W F (.slice a n k) d):∃b o,0<d.length->a=some ⟨b,o,none⟩/\eE W b o d/\∃l i,W.heap[b]?=some (Obj.cells l 9 i):=by
 obtain⟨g,f⟩|⟨b,o,c,g,f,p,j,m⟩:=h
 ·subst f;exact⟨0,0,λe=>by simp at e⟩
 cases g;exact⟨b,o,λ_=>⟨rfl,j,m.1⟩⟩
def bE.J1(h:bE W F c rb s)(p:dU W F b j)(i:μ W a)(n:a.ownsRow W.heap.size 9 1 e d.length (d.map aK)):
 bE (a.alloc (.cells #[b,e,ς] 273)) (F.put a.heap.size (.kf s.aG.length)) c (lL rb s.aG.length a.heap.size) {s with aG:=s.aG++[⟨j,d,[]⟩]}/\Fr F (F.put a.heap.size (.kf s.aG.length)) W (a.alloc (.cells #[b,e,ς] 273)):=by
 have l:=i.size;have g:μ W (a.alloc (.cells #[b,e,ς] 273)):=i.alloc l _;have m:=(X5 a.heap.size a).alloc ax (.cells #[b,e,ς] 273);refine h.VC g l (aF.bq a 273 [b,e,ς]) ?_ ?_
 ·exact p.same g.size (λk f v=>⟨g.block k f,by unfold dS.put;rw[Yb (by omega)];exact v⟩)
 refine dU.same (F:=F) (W:=a) ?_ m.size (λk f v=>⟨m.block k f,by unfold dS.put;rw[Yb (by omega)];exact v⟩);exact dU.Du n (λk f _=>h.out f)
def U8(h:bE W F c rb s){i:Nat}(l:i<s.aG.length)(a:jS W c.bb c.nm c.bt c.pb b s.first)(d:iz W F .bJ b rb s.bJ)(j:X.ownsRow 0 265 1 e (s.bJ.length+1) (s.bJ.map (dE rb)++[dE rb i]))(f:W.grownBy X b.ownBlock)(g:e.ownBlock=b.ownBlock\/e.ownBlock=some W.heap.size):
 jS X c.bb c.nm c.bt c.pb b s.first/\∃G,bE (X.ψ c.bb 1 e) G c rb {s with bJ:=s.bJ++[i]}/\Fr F G W (X.ψ c.bb 1 e):=
 ⟨aF.grown a f (lT a d.1 (by decide)),_,h.Wy l a d j f g⟩
def bE.Uk(h:bE W F c rb s)(x:dU W F b j)(y:μ W a)(C:a.ownsRow W.heap.size 9 1 e d.length (d.map aK)):
 ∃g,(a.alloc (.cells #[b,e,ς] 273)).cell? ⟨c.bb,1,none⟩=some g/\
  ((a.alloc (.cells #[b,e,ς] 273)).alloc (.cells #[π a.heap.size] 265)).ownsRow 0 265 1 g s.bJ.length (s.bJ.map (dE (lL rb s.aG.length a.heap.size)))/\
  aF ((a.alloc (.cells #[b,e,ς] 273)).alloc (.cells #[π a.heap.size] 265)) (a.heap.size+1) 265 [π a.heap.size]/\
  ∀v6 f,f.ownsRow 0 265 1 v6 (s.bJ.length+1) (s.bJ.map (dE (lL rb s.aG.length a.heap.size))++[π a.heap.size])->((a.alloc (.cells #[b,e,ς] 273)).alloc (.cells #[π a.heap.size] 265)).grownBy f g.ownBlock->
   (v6.ownBlock=g.ownBlock\/v6.ownBlock=some ((a.alloc (.cells #[b,e,ς] 273)).alloc (.cells #[π a.heap.size] 265)).heap.size)->
   f.cell? ⟨c.bb,1,none⟩=some g/\f.frozen? (η c.bb 1)=false/\∃G,bE (f.ψ c.bb 1 v6) G c (lL rb s.aG.length a.heap.size) {s with aG:=s.aG++[⟨j,d,[]⟩],bJ:=s.bJ++[s.aG.length]}/\Fr F G W (f.ψ c.bb 1 v6):=by
 have⟨m,A⟩:=h.J1 x y C;have⟨g,r,I⟩:=m.bW;have l:=(X5 (a.alloc (.cells #[b,e,ς] 273)).heap.size (a.alloc (.cells #[b,e,ς] 273))).alloc ax (.cells #[π a.heap.size] 265);have p:=I.aD l (λk v=>m.lt v);have q:=aF.bq (a.alloc (.cells #[b,e,ς] 273)) 265 [π a.heap.size];rw[X_]at q;have H:dE (lL rb s.aG.length a.heap.size) s.aG.length=π a.heap.size:=by unfold dE lL;rw[Yd rfl]
 refine⟨g,aF.cell? (i:=1) r rfl,p.1,q,λv6 f n z B=>?_⟩;rw[<-H]at n;have⟨t,G,u,E⟩:=U8 (i:=s.aG.length) (m.aD l) (by simp) (aF.aD r l) p n z B;exact⟨aF.cell? (i:=1) t rfl,aF.frozen t 1,G,u,(A.trans (Fr.aD l)).trans E⟩
def Up(a b:fv)(vt vn:az)(h:bE W F c rb s)(I:dU W F vt a)(R:dU W F vn b)(S:a≠[])(hg:dq W)(a1:a.length<=2000)(a4:b.length<=2000)(aW:∀x∈a,x.length<=2000)(a2:s.ph.length<=1000000)(aZ:s.tl<=1000000)(aB:∀n,(s.of n).length<=s.tl)(a0:s.bJ.length<=1000000):
 Calls prog 184 #[π c.bb,vt,vn] W λe P=>∃G rb',e=.returned (ko rb' (bA s a b).1)/\bE P G c rb' (bA s a b).2/\Fr F G W P:=by
 have⟨i0,aU,aA,aX,aN⟩:=Y1 Tryz.JH;obtain⟨-,q⟩|⟨r,t,l,rfl,M,aI,g,Y⟩:=I
 ·exact absurd q S
 have I:dU W F (.slice (some (η r t)) a.length l) a:=.inr ⟨r,t,l,rfl,M,aI,g,Y⟩;obtain⟨H,D,rfl⟩:=R.tQ.sh;have L:=(X5 W.heap.size W).alloc ax (.cells #[.string ⟨#[46,80,72,79,78,89]⟩] 9);have r1:eE (W.alloc (.cells #[.string ⟨#[46,80,72,79,78,89]⟩] 9)) W.heap.size 0 [s7]:=λB x A=>by have:=(aF.bq W 9 [.string ⟨#[46,80,72,79,78,89]⟩]).cell? (i:=B) (v:=aK x) (by cases B with|zero=>(cases A;rfl)|succ B=>cases A);rw[YO];exact this
 have z:=Pd a [s7] r t l W.heap.size 0 1 (W.alloc (.cells #[.string ⟨#[46,80,72,79,78,89]⟩] 9)) (g.aP L M) r1 (by omega) (by simp);have aa:=Y5.2 S;by_cases Q:a=[s7]
 ·rw[Y6 Q]at z;have N:bA s a b=(none,{s with ph:=b.foldl lq s.ph}):=by unfold bA;rw[Yd Q]
  rw[N];have CP:∀w,μ W w->Calls prog 229 #[π c.bb,.slice H b.length D] w λe y=>e=.returned (.tuple #[])/\bE y F c rb {s with ph:=b.foldl lq s.ph}/\Fr F F W y:=λw C=>by have X:=h.aD C;obtain⟨vp,hB,-⟩:=X.bW;have⟨nb,no,aM⟩:=(R.aD C).XN;refine κ (M8 c.bb c.nm c.bt c.pb vp s.first s.ph b H D nb no w hB X.j8 aM (by omega)) λw1⟨aO,aR⟩=>?_;have⟨m,f⟩:=X.TY aR aO;exact⟨rfl,m,(Fr.aD C).trans f⟩
  clear h I R g Y r1 N Q S hg;go_in;go_wp2_with (first|(go_at_call 228;refine z.mono ?_;clear z;rintro e w1⟨rfl,p⟩;have O:=L.tr p)|(go_at_call 229;refine κ (CP _ O) λw2⟨ag,ai⟩=>?_))
  go_ret;exact⟨F,rb,rfl,ag,ai⟩
 rw[Y9 Q]at z;have U:∀w,μ W w->Calls prog 230 #[ξ w.heap.size 1 1] (w.alloc (.cells #[.slice H b.length D] 30)) λe y=>∃v,e=.returned v/\y.ownsRow W.heap.size 9 1 v (bR b []).length ((bR b []).map aK)/\μ W y:=λw C=>by
  have b2:=(X5 w.heap.size w).alloc ax (.cells #[.slice H b.length D] 30);have ah:[b].flatten=b:=by simp
  have hC:=BY [b] (some (η w.heap.size 0)) 1 w.heap.size 0 (w.alloc (.cells #[.slice H b.length D] 30)) (λ_=>⟨rfl,by simp,λB x A=>?_⟩) (by simp) (by rw[ah];omega)
  ·rw[ah]at hC;refine hC.mono ?_;rintro e y⟨v,rfl,K,j⟩;have hs:=C.size;have e1:=X_ w (.cells #[.slice H b.length D] 30);exact⟨v,rfl,Jf K (by omega),((C.trans (b2.mono hs)).trans (j.mono (by omega)))⟩
  cases B with
  |zero=>cases A;exact⟨_,(aF.bq w 30 [.slice H b.length D]).cell? (i:=0) rfl,((R.aD C).aD b2).tQ⟩
  |succ B=>cases A
 have HP:=λd v (j:μ W d) (K:d.ownsRow W.heap.size 9 1 v (bR b []).length ((bR b []).map aK))=>h.Uk I j K;have CX:∀d v,μ W d->d.ownsRow W.heap.size 9 1 v (bR b []).length ((bR b []).map aK)->Calls prog 232 #[π c.bb,π d.heap.size] (d.alloc (.cells #[.slice (some (η r t)) a.length l,v,ς] 273)) λe P=>e=.returned (.tuple #[])/\∃G,bE P G c (lL rb s.aG.length d.heap.size) (mD {s with aG:=s.aG++[⟨a,bR b [],[]⟩]} a s.aG.length)/\Fr F G W P:=λd v j K=>by
  have⟨m1,f1⟩:=h.J1 I j K;have e1:dE (lL rb s.aG.length d.heap.size) s.aG.length=π d.heap.size:=by unfold dE lL;rw[Yd rfl]
  rw[<-e1];refine κ (MJ s.aG.length ⟨a,bR b [],[]⟩ m1 (by simp) S (by simp only;omega) aB) λw5⟨G,T,V⟩=>?_;exact⟨rfl,G,T,f1.trans V⟩
 have af:=X9 aa;have aq:=Bg _ aa;have N:bA s a b=if dc a[0]=true then(some s.aG.length,{s with aG:=s.aG++[⟨a,bR b [],[]⟩],bJ:=s.bJ++[s.aG.length]}) else(some s.aG.length,mD {s with aG:=s.aG++[⟨a,bR b [],[]⟩]} a s.aG.length):=by unfold bA;rw[Yb Q,aq]
 rw[N];have Z:∀d v,μ W d->Calls prog 231 #[π d.heap.size] (d.alloc (.cells #[.slice (some (η r t)) a.length l,v,ς] 273)) λe y=>e=.returned (.bool (dc a[0]))/\y =(d.alloc (.cells #[.slice (some (η r t)) a.length l,v,ς] 273)):=λd v j=>by have al:=j.alloc j.size (.cells #[.slice (some (η r t)) a.length l,v,ς] 273);exact Mi d.heap.size t l r v (ς) a a[0] af (aF.bq d 273 [_,_,_]) (g.aP al M) (hg.aD al) (by have:=aW _ (Ym aa);omega)
 clear h I R g Y r1 N af aq;generalize dc a[0]=pb at*;cases pb with
 |true=>
  rw[Yd rfl];go_in;go_wp2_with (first|(go_at_call 228;refine z.mono ?_;clear z;rintro e w1⟨rfl,p⟩;have O:=L.tr p)|(go_at_call 230;refine(U _ O).mono ?_;rintro e d⟨k,rfl,E,g⟩;have⟨vp,p1,o,p3,p4⟩:=HP d k g E;have⟨ap,cp,aL⟩:=fp o;have aw:=aC o;have aH:=aC p4;have J:=Z d k g;have⟨a3,c3,ac⟩:=fp E;subst aL ac;clear E g Z o p4)|(go_at_call 231;refine J.mono ?_;clear J;rintro e w4⟨rfl,rfl⟩)|(at_builtin;refine YS _ rfl (.tmp 26) (.tmp 28) 138 rfl 0 265 i0 (.pointer none) 1 8 ael aU aA aX aN rfl (by decide) _ s.bJ.length _ rfl aw (η (d.heap.size+1) 0) 1 1 [π d.heap.size] rfl (by simp) (λB u A=>by rw[jx];exact p3.cell? A) (by intro u hu;rw[Yc]at hu;subst hu;rfl) (by unfold maxLen;omega) (by omega) (Yh _) ?_;intro v6 w6 ab ao _ ar;obtain⟨a6,c6,rfl⟩:=fp ab;have⟨y1,y2,am⟩:=aH _ w6 ab ao ar))
  go_ret;have⟨G6,m6,f6⟩:=am;exact⟨G6,_,by unfold ko dE lL;simp,m6,f6⟩
 |false=>
  rw[Yb (by simp)];go_in;go_wp2_with (first|(go_at_call 228;refine κ z λw1 p=>?_;have O:=L.tr p;clear p)|(go_at_call 230;refine(U _ O).mono ?_;clear U;rintro e d⟨k,rfl,E,g⟩;have ak:=CX d k g E;have J:=Z d k g;have⟨a3,c3,ac⟩:=fp E;subst ac)|(go_at_call 231;refine J.mono ?_;rintro e w4⟨rfl,rfl⟩)|(go_at_call 232;refine ak.mono ?_;clear ak;rintro e w5⟨rfl,G5,T,V⟩))
  go_ret;exact⟨G5,_,by unfold ko dE lL;simp,T,V⟩
end
def Aj(a:aj)(w:ay)(l:a.length<=2000):
 Calls prog 166 #[σ a] w λe g=>∃A,e=.returned (ξ A (bQ a).length (bQ a).length)/\
  g.ownsRow w.heap.size 9 1 (ξ A (bQ a).length (bQ a).length) (bQ a).length ((bQ a).map aK)/\μ w g:=by
 have f:=QA ⟨a.toArray⟩ w (by show a.length<=_;omega);have d:(Lib.goFieldsP jI ⟨a.toArray⟩).map (·.data.toList)=bQ a:=L5 ⟨a.toArray⟩;have i:(Lib.goFieldsP jI ⟨a.toArray⟩).length=(bQ a).length:=by rw[<-d,Yk]
 have h:(Lib.goFieldsP jI ⟨a.toArray⟩).map Value.string=(bQ a).map aK:=by rw[<-d,k6];apply E1;intro b _;show Value.string b=Value.string ⟨b.data.toList.toArray⟩;rw[Array.toArray_toList]
 rw[i,h]at f;exact f
section
def bE.gT(h:bE W F c rb s):bE (W.ψ c.rd 2 (ι ((s.n:Int)+1))) F c rb {s with n:=s.n+1}/\Fr F F W (W.ψ c.rd 2 (ι ((s.n:Int)+1))):=by
 have a:((s.n+1:Nat):Int)=(s.n:Int)+1:=by omega
 have:=h.Dx (n:=s.n+1) (inc:=s.inc) (opn:=s.opn) (Tn.set (p:=λk=>k=c.rd) W (η c.rd 2) (ι ((s.n:Int)+1)) rfl) (by rw[a];exact h.row.set 2 _);exact this
def Sv(M:Ln)(k:Nat)(h:bE W F c rb s)(t:Ok s k)(hg:dq W)(ap:F 0=none)(hl:M.left.length<=1073741824)(hr:M.right.length<=1073741824):
 Calls prog 137 #[π c.rd,dQ M] W λe W'=>∃G rb',e=.returned (.tuple #[ko rb' (gJ s M).2.1,ι ((gJ s M).1:Int)])/\bE W' G c rb' (gJ s M).2.2/\Fr F G W W':=by
 have⟨bh,cK,L,I⟩:=M;have hA:gJ s ⟨bh,cK,L,I⟩=if(dK s.aX L).er≠0 then((dK s.aX L).er,none,s)
  else if(dK s.aX I).er≠0 then((dK s.aX I).er,none,s)
  else if lJ (bQ (dK s.aX L).bK) (bQ (dK s.aX I).bK)=false then(1,none,s)
  else if s.n=64 then(5,none,s)
  else(0,bA {s with n:=s.n+1} (bQ (dK s.aX L).bK) (bQ (dK s.aX I).bK)):=rfl
 rw[hA];have u:=(X5 W.heap.size W).alloc ax (.cells #[ι bh,ι cK,σ L,σ I] 164);have CE:∀Y w,μ W w->Y.length<=1073741824->γ 182 #[π c.rd,σ Y] w (.tuple #[.string ⟨(dK s.aX Y).bK.toArray⟩,ι ((dK s.aX Y).er:Int)]):=λY w l ht=>AW Y (h.aD l) t.mI (hg.aD l) ht;have aq:=aF.bq W 164 [ι bh,ι cK,σ L,σ I];have ao:=uD s.aX L;have am:=uD s.aX I;have HH:Hid (∀w,μ W w->bE w F c rb s/\Fr F F W w):=λw l=>⟨h.aD l,Fr.aD l⟩;have HF:=aC ap;have y:=λw (l:μ W w)=>CE L w l hl;have HR:=λw (l:μ W w)=>CE I w l hr;have aA:Hid (∀k,W.heap.size<=k->F k=none):=λk t=>h.out t;clear h ap CE hA;generalize aw:dK s.aX L=eL at*;generalize aM:dK s.aX I=eR at*;clear aw aM;have⟨a,an,aO⟩:=eL;have⟨f,cH,aP⟩:=eR;simp only at ao am y HR⊢;by_cases h1:an=0
 ·subst h1;rw[Yb (by simp)];by_cases h2:cH=0
  ·subst h2;rw[Yb (by simp)];have a1:=sL a;have a2:=sL f;have S:∀d g w,μ W w->eE w d 0 (bQ a)->eE w g 0 (bQ f)->d<w.heap.size->g<w.heap.size->γ 183 #[ξ d (bQ a).length (bQ a).length,ξ g (bQ f).length (bQ f).length] w (.bool (lJ (bQ a) (bQ f))):=λd g w l J h4 h5 h6=>LY (bQ a) (bQ f) _ _ _ _ w ⟨d,0,λ_=>⟨rfl,h5,J⟩⟩ ⟨g,0,λ_=>⟨rfl,h6,h4⟩⟩ (hg.aD l) (by omega) (by omega) (λx hx=>by have:=a1.2 x hx;omega) (λx hx=>by have:=a2.2 x hx;omega);have ah:Hid (lJ (bQ a) (bQ f)=true->bQ a≠[]):=λe q=>by unfold lJ at e;rw[q]at e;simp at e
   have CA:∀d g w,μ W w->dU w F (ξ d (bQ a).length (bQ a).length) (bQ a)->dU w F (ξ g (bQ f).length (bQ f).length) (bQ f)->lJ (bQ a) (bQ f)=true->Calls prog 184 #[π c.bb,ξ d (bQ a).length (bQ a).length,ξ g (bQ f).length (bQ f).length] (w.ψ c.rd 2 (ι ((s.n:Int)+1))) λe B=>∃G rb',e=.returned (ko rb' (bA {s with n:=s.n+1} (bQ a) (bQ f)).1)/\bE B G c rb' (bA {s with n:=s.n+1} (bQ a) (bQ f)).2/\Fr F G W B:=λd g w l J h4 h5=>by
    have⟨m1,f1⟩:=HH w l;have⟨m2,f2⟩:=m1.gT;have t:=t;have q1:=t.tl;have q2:=t.ph;have q3:=t.pt;have q4:=t.jo;have aG:dq (w.ψ c.rd 2 (ι ((s.n:Int)+1))):=by have⟨m,hm⟩:=hg.aD l;refine⟨m,?_⟩;have aH:=xe (hg.aD l);have:=f2.tn.block _ aH (λe=>e HF);unfold World.cell? at*;rw[this];exact hm
    refine(Up (bQ a) (bQ f) _ _ m2 (J.fr f2) (h4.fr f2) (ah h5) aG (by omega) (by omega) (λx hx=>by have:=a1.2 x hx;omega) (by simp only;omega) (by simp only;omega) t.ol (by simp only;omega)).mono ?_;rintro e B⟨G,rb',rfl,m3,f3⟩;exact⟨G,rb',rfl,m3,(f1.trans f2).trans f3⟩
   have X:=λw=>Aj a w ao;have ac:=λw=>Aj f w am;have ad:∀w B A r,μ W w->B.ownsRow w.heap.size 9 1 (ξ A r.length r.length) r.length (r.map aK)->dU B F (ξ A r.length r.length) r:=λw B A r l ho=>dU.Du ho (λk t _=>aA k (Ye l.size t));have ak:∀w A r,dU w F (ξ A r.length r.length) r->A<w.heap.size/\eE w A 0 r:=λw A r h=>by
    obtain⟨h1,h2⟩|⟨b,o,cc,h1,h2,J,h4,h5⟩:=h
    ·cases h1
    cases h1;exact⟨h2,h4⟩
   have v:=aC ak;clear ak;by_cases J:lJ (bQ a) (bQ f)=false
   ·rw[Yd J];rw[J]at S;clear CA ah;go_in;unfold dQ;go_wp2_with (first|(go_at_call 182;refine(y _ u).mono ?_;clear y;rintro e w1⟨rfl,j⟩;have c3:=(aq.aD j).cell? (i:=3) rfl;have z:=u.tr j;clear j)|(go_at_call 182;refine(HR _ z).mono ?_;clear HR;rintro e P⟨rfl,D⟩;have Z:=z.tr D;clear D)|(go_at_call 166;refine(X P).mono ?_;clear X;rintro e C⟨d,rfl,U,H⟩;have af:=ad P C d _ Z U;have R:=Z.tr H;clear U H)|(go_at_call 166;refine(ac C).mono ?_;clear ac;rintro e Q⟨g,rfl,V,E⟩;have N:=ad C Q g _ R V;have O:=af.aD E;have T:=R.tr E;clear V E)|(go_at_call 183;refine(S d g Q T (v _ _ _ O).2 (v _ _ _ N).2 (v _ _ _ O).1 (v _ _ _ N).1).mono ?_;clear S;rintro e w5⟨rfl,K⟩;have p:=HH _ (T.tr K);clear K))
    go_ret2
    exact⟨F,rb,rfl,p.1,p.2⟩
   rw[Yb J];have ai:lJ (bQ a) (bQ f)=true:=by simpa using J
   rw[ai]at S;by_cases av:s.n=64
   ·rw[Yd av];have aN:((s.n:Int)==64)=true:=by rw[Zj];omega
    clear CA ah;go_in;unfold dQ;go_wp2_with (first|(go_at_call 182;refine(y _ u).mono ?_;clear y;rintro e w1⟨rfl,j⟩;have c3:=(aq.aD j).cell? (i:=3) rfl;have z:=u.tr j;clear j)|(go_at_call 182;refine(HR _ z).mono ?_;clear HR;rintro e P⟨rfl,D⟩;have Z:=z.tr D;clear D)|(go_at_call 166;refine(X P).mono ?_;clear X;rintro e C⟨d,rfl,U,H⟩;have af:=ad P C d _ Z U;have R:=Z.tr H;clear U H)|(go_at_call 166;refine(ac C).mono ?_;clear ac;rintro e Q⟨g,rfl,V,E⟩;have N:=ad C Q g _ R V;have O:=af.aD E;have T:=R.tr E;clear V E)|(go_at_call 183;refine(S d g Q T (v _ _ _ O).2 (v _ _ _ N).2 (v _ _ _ O).1 (v _ _ _ N).1).mono ?_;clear S;rintro e w5⟨rfl,K⟩;have p:=HH _ (T.tr K);have r2:=p.1.row.cell? (i:=2) rfl;clear K))
    go_ret2
    exact⟨F,rb,rfl,p.1,p.2⟩
   rw[Yb av];have aN:((s.n:Int)==64)=false:=by rw[Yi];omega
   have aR:=t.jo;have HT:=aC ai;clear ah J ai;go_in;unfold dQ;go_wp2_with (first|(go_at_call 182;refine(y _ u).mono ?_;clear y;rintro e w1⟨rfl,j⟩;have c3:=(aq.aD j).cell? (i:=3) rfl;have z:=u.tr j;clear j)|(go_at_call 182;refine(HR _ z).mono ?_;clear HR;rintro e P⟨rfl,D⟩;have Z:=z.tr D;clear D)|(go_at_call 166;refine(X P).mono ?_;clear X;rintro e C⟨d,rfl,U,H⟩;have af:=ad P C d _ Z U;have R:=Z.tr H;clear U H)|(go_at_call 166;refine(ac C).mono ?_;clear ac;rintro e Q⟨g,rfl,V,E⟩;have N:=ad C Q g _ R V;have O:=af.aD E;have T:=R.tr E;clear V E)|(go_at_call 183;refine(S d g Q T (v _ _ _ O).2 (v _ _ _ N).2 (v _ _ _ O).1 (v _ _ _ N).1).mono ?_;clear S;rintro e w5⟨rfl,K⟩;have au:=T.tr K;have p:=HH _ au;have r2:=p.1.row.cell? (i:=2) rfl;have f2:=p.1.row.frozen 2;have r1:=p.1.gT.1.row.cell? (i:=1) rfl;have aI:=N.aD K;have aL:=O.aD K;clear K)|(go_at_call 184;refine(CA d g w5 au aL aI HT).mono ?_;clear CA;rintro e w6⟨G,rb',rfl,al,ar⟩))
   go_ret2
   exact⟨G,rb',rfl,al,ar⟩
  have t1:((cH:Int) !=0)=true:=by rw[ZI];omega
  rw[Yd h2];go_in;unfold dQ;go_wp2_with (first|(go_at_call 182;refine(y _ u).mono ?_;clear y;rintro e w1⟨rfl,j⟩;have c3:=(aq.aD j).cell? (i:=3) rfl;have z:=u.tr j;clear j)|(go_at_call 182;refine(HR _ z).mono ?_;clear HR;rintro e P⟨rfl,D⟩;have p:=HH _ (z.tr D);clear D))
  go_ret2
  exact⟨F,rb,rfl,p.1,p.2⟩
 have t1:((an:Int) !=0)=true:=by rw[ZI];omega
 rw[Yd h1];go_in;unfold dQ;go_wp2_with (go_at_call 182;refine(y _ u).mono ?_;clear y;rintro e w1⟨rfl,j⟩;have p:=HH _ (u.tr j);clear j)
 go_ret2
 exact⟨F,rb,rfl,p.1,p.2⟩
end
def zt(c:Ad)(g h:Nat)(l:az)(f:ga)(j:fy)(u:Int)(M:Nat)(rec:St->aj->Nat×Nat×St)(o:Nat):Prop:=
 ∀(W:ay) (F:dS) (i:Nat->Nat) (s:St) (k:Nat) (a:aj),bE W F c i s->En W F c.bx g h l f j u->Ok s k->s.opn=o->a.length+1<=M->a.length<=1073741824->k+(100-s.inc)*M+M<=4294967296->
  Calls prog 89 #[.pointer (some ⟨c.rd,0,none⟩),.string ⟨a.toArray⟩] W λe b=>∃G d,e=.returned (.tuple #[.int .i64 ((rec s a).1:Int),.int .i64 ((rec s a).2.1:Int)])/\bE b G c d (rec s a).2.2/\Fr F G W b
section
variable {u:Int}
def bE.Wo(h:bE W F c rb s):bE ((W.ψ c.rd 3 (ι ((s.inc:Int)+1))).ψ c.rd 4 (ι ((s.opn:Int)+1))) F c rb {s with inc:=s.inc+1,opn:=s.opn+1}/\Fr F F W ((W.ψ c.rd 3 (ι ((s.inc:Int)+1))).ψ c.rd 4 (ι ((s.opn:Int)+1))):=by
 have b:((s.inc+1:Nat):Int)=(s.inc:Int)+1:=by omega
 have a:((s.opn+1:Nat):Int)=(s.opn:Int)+1:=by omega
 exact h.Dx (n:=s.n) (inc:=s.inc+1) (opn:=s.opn+1) ((Tn.set (p:=λk=>k=c.rd) W (η c.rd 3) _ rfl).trans (Tn.set _ (η c.rd 4) _ rfl)) (by rw[b,a];exact(h.row.set 3 _).set 4 _)
def bE.WR(h:bE W F c rb s)(b:1<=s.opn):bE (W.ψ c.rd 4 (ι ((s.opn:Int)-1))) F c rb {s with opn:=s.opn-1}/\Fr F F W (W.ψ c.rd 4 (ι ((s.opn:Int)-1))):=by
 have a:((s.opn-1:Nat):Int)=(s.opn:Int)-1:=by omega
 exact h.Dx (n:=s.n) (inc:=s.inc) (opn:=s.opn-1) (Tn.set (p:=λk=>k=c.rd) W (η c.rd 4) _ rfl) (by rw[a];exact h.row.set 4 _)
def TG(b:Nat)(u:FrameMode)(h:bE W F c rb s)(d:aF W b 264 [π c.rd])(f:1<=s.opn)(n:s.opn<=4):
 CallsD prog 233 #[π b] u W λe j a=>j =u/\(e=.returned (.tuple #[])/\bE a F c rb {s with opn:=s.opn-1}/\Fr F F W a):=by
 have:=d.cell? (i:=0) rfl;have:=h.row.cell? (i:=4) rfl;have:=h.row.frozen 4;go_enter_d func233,ntmps233
 go_wp2
 go_end0
 exact⟨rfl,h.WR f⟩
def LN(J:o≠3->zt c bf bi ve ef fs u M rec (o+1))(K:pR M rec)(P:∀aa b,Pl.look fs aa=some b->b.aU.length+1<=M/\b.aU.length<=1073741824)(name:aj)(H:Nat)(h:bE W F c rb s)(A:En W F c.bx bf bi ve ef fs u)(d:Ok s k)(ho:s.opn=o)(ai:o<=3)(B:k+(100-s.inc)*M<=4294967296):
 Calls prog 185 #[π c.rd,σ name,ι H] W λe p=>∃G rb',e=.returned (.tuple #[ι ((iJ rec fs s name H).1:Int),ι ((iJ rec fs s name H).2.1:Int)])/\bE p G c rb' (iJ rec fs s name H).2.2/\Fr F G W p:=by
 have v:=(X5 W.heap.size W).alloc ax (.cells #[π c.rd] 264);have S:=aF.bq W 264 [π c.rd];have:=h.row.cell? (i:=0) rfl;have g:=Ei c.bx bf bi ve ef fs u name (W.alloc (.cells #[π c.rd] 264)) (A.pw.aD v);have r:Hid (∀w,Below (W.alloc (.cells #[π c.rd] 264)).heap.size (W.alloc (.cells #[π c.rd] 264)) w->bE w F c rb s/\Fr F F W w/\En w F c.bx bf bi ve ef fs u/\aF w W.heap.size 264 [π c.rd]):=λw E=>by have t:=v.trans (E.mono (by rw[X_];omega));exact⟨h.aD t,Fr.aD t,A.aD t,S.aD E⟩
 have V:=h.out ax;have:=h.row.lt;clear h A v S;cases m:Pl.look fs name with
 |none=>
  have j:iJ rec fs s name H=(2,H,s):=by unfold iJ;rw[m]
  rw[j];rw[m]at g;simp only at g;clear j;go_enter_defers afm,aeT
  go_wp2_with (go_at_call 87;refine g.mono ?_;clear g;rintro e y⟨rfl,l⟩;have a:=r.u _ l;clear l)
  exact⟨_,Y8 rfl _ _ _,F,rb,rfl,a.1,a.2.1⟩
 |some b=>
  rw[m]at g;simp only at g;have⟨L,N⟩:=P name b m;by_cases x:s.opn=3
  ·have j:iJ rec fs s name H=(3,H,s):=by unfold iJ;rw[m];simp only;rw[Yd x]
   rw[j];have:((s.opn:Int)==3)=true:=by rw[Zj];omega
   clear j;go_enter_defers afm,aeT
   go_wp2_with (go_at_call 87;refine g.mono ?_;clear g;rintro e y⟨rfl,l⟩;have a:=r.u _ l;have:=a.2.2.2.cell? (i:=0) rfl;have:=a.1.row.cell? (i:=4) rfl;clear l)
   exact⟨_,Y8 rfl _ _ _,F,rb,rfl,a.1,a.2.1⟩
  have:((s.opn:Int)==3)=false:=by rw[Yi];omega
  by_cases D:s.inc=100
  ·have j:iJ rec fs s name H=(5,H,s):=by unfold iJ;rw[m];simp only;rw[Yb x,Yd D]
   rw[j];have:((s.inc:Int)==100)=true:=by rw[Zj];omega
   clear j;go_enter_defers afm,aeT
   go_wp2_with (go_at_call 87;refine g.mono ?_;clear g;rintro e y⟨rfl,l⟩;have a:=r.u _ l;have:=a.2.2.2.cell? (i:=0) rfl;have:=a.1.row.cell? (i:=4) rfl;have:=a.1.row.cell? (i:=3) rfl;clear l)
   exact⟨_,Y8 rfl _ _ _,F,rb,rfl,a.1,a.2.1⟩
  have:((s.inc:Int)==100)=false:=by rw[Yi];omega
  have:=d.inc;have j:iJ rec fs s name H=((rec {s with inc:=s.inc+1,opn:=s.opn+1} b.aU).1,(rec {s with inc:=s.inc+1,opn:=s.opn+1} b.aU).2.1,{(rec {s with inc:=s.inc+1,opn:=s.opn+1} b.aU).2.2 with opn:=(rec {s with inc:=s.inc+1,opn:=s.opn+1} b.aU).2.2.opn-1}):=by unfold iJ;rw[m];simp only;rw[Yb x,Yb D]
  rw[j];have z:Ok {s with inc:=s.inc+1,opn:=s.opn+1} k:=⟨d.mI,d.nl,d.ol,d.tl,d.jo,d.ph,d.pt,d.rl,d.cl,d.rs,by simp only;omega⟩;have n:=(K _ k b.aU z L N).opn;simp only at n;have I:k+(100-(s.inc+1))*M+M<=4294967296:=by
   obtain⟨q,hq⟩:∃q,100-s.inc=q+1:=⟨99-s.inc,by omega⟩;have Y:100-(s.inc+1)=q:=by omega
   rw[hq,l5]at B;rw[Y];omega
  have CR:Hid (∀w,bE w F c rb s->En w F c.bx bf bi ve ef fs u->Calls prog 89 #[π c.rd,σ b.aU] ((w.ψ c.rd 3 (ι ((s.inc:Int)+1))).ψ c.rd 4 (ι ((s.opn:Int)+1))) λe p=>∃G rb',e=.returned (.tuple #[ι ((rec {s with inc:=s.inc+1,opn:=s.opn+1} b.aU).1:Int),ι ((rec {s with inc:=s.inc+1,opn:=s.opn+1} b.aU).2.1:Int)])/\bE p G c rb' (rec {s with inc:=s.inc+1,opn:=s.opn+1} b.aU).2.2/\Fr F G w p):=λw hm he=>by have⟨m1,C⟩:=hm.Wo;refine(J (by omega) _ F rb _ k b.aU m1 (he.fr C) z (by simp only;omega) L N I).mono ?_;rintro e w'⟨G,rb',rfl,Q,f2⟩;exact⟨G,rb',rfl,Q,C.trans f2⟩
  clear J K P j d z B I;generalize rec {s with inc:=s.inc+1,opn:=s.opn+1} b.aU=Z at*;obtain⟨re,rn,rs⟩:=Z;simp only at n CR⊢;have:s.opn+1<=4:=by omega
  have R:=aC n;clear ho n;go_enter_defers afm,aeT
  go_wp2_with (first|(go_at_call 87;refine g.mono ?_;clear g;rintro e y⟨rfl,l⟩;have a:=r.u _ l;have:=a.2.2.2.cell? (i:=0) rfl;have:=a.1.row.cell? (i:=4) rfl;have:=a.1.row.cell? (i:=3) rfl;have:=a.1.row.frozen 4;have:=a.1.row.frozen 3;clear l)|(go_at_call 89;refine(CR.u _ a.1 a.2.2.1).mono ?_;clear CR;rintro e w2⟨G,rb',rfl,O,T⟩))
  have n:=R.u;have X:=a.2.2.2.tn T.tn (λe=>e V);refine leaves_cons (f:=233) (args:= #[π W.heap.size]) (by simp) (by simp[go_sem]) ?_;refine(TG W.heap.size .returning O X (by omega) (by omega)).mono ?_;rintro e u' w5⟨rfl,rfl,U,af⟩;exact⟨_,Y8 rfl _ _ _,G,rb',rfl,U,(a.2.1.trans T).trans af⟩
end
section
variable {u:Int}
structure Ll(W:ay)(F:dS)(c:Ad)(M:Nat)(rec:St->aj->Nat×Nat×St)(fs:fy)(bh:Nat)(ws:fv)(s:St)(k j:Nat)(X:ay):Prop where
 fF:∃G rb' sj kj,bE X G c rb' sj/\Fr F G W X/\Ok sj kj/\kj+(100-sj.inc)*M<=k+(100-s.inc)*M/\sj.opn=s.opn/\lj rec fs bh ws s=lj rec fs bh (ws.drop j) sj
def NK(ao:o≠3->zt c bf bi ve ef fs u M rec (o+1))(ac:pR M rec)(hf:∀an S,Pl.look fs an=some S->S.aU.length+1<=M/\S.aU.length<=1073741824)(n:Ln)(h:bE W F c rb s)(T:En W F c.bx bf bi ve ef fs u)(f:Ok s k)(P:s.opn=o)(aB:o<=3)(am:k+(100-s.inc)*M<=4294967296)(hl:n.right.length<=1073741824):
 Calls prog 138 #[π c.rd,dQ n] W λe W'=>∃G rb',e=.returned (.tuple #[ι ((lH rec fs s n).1:Int),ι ((lH rec fs s n).2.1:Int)])/\bE W' G c rb' (lH rec fs s n).2.2/\Fr F G W W':=by
 obtain⟨g,V,L,d⟩:=n;have hA:lH rec fs s ⟨g,V,L,d⟩=if(dK s.aX d).er≠0 then((dK s.aX d).er,g,s) else lj rec fs g (bQ (dK s.aX d).bK) s:=rfl
 rw[hA];have B:=(X5 W.heap.size W).alloc ax (.cells #[ι g,ι V,σ L,σ d] 164);have ak:=aF.bq W 164 [ι g,ι V,σ L,σ d];have z:=AW d (h.aD B) f.mI (T.fQ.aD B) hl;have ag:=uD s.aX d;have HH:Hid (∀w,μ W w->bE w F c rb s/\Fr F F W w/\En w F c.bx bf bi ve ef fs u):=λw Z=>⟨h.aD Z,Fr.aD Z,T.aD Z⟩;have ah:Hid (∀k,W.heap.size<=k->F k=none):=λk f=>h.out f;clear h T hA;generalize dK s.aX d=eR at*;obtain⟨tr,Y,aL⟩:=eR;simp only at ag z⊢;by_cases h1:Y=0
 ·subst h1;rw[Yb (by simp)];have:=sL tr;have CW:=aC (λw=>Aj tr w ag);generalize bQ tr=a at*;go_in;unfold dQ;go_wp2_with (first|(go_at_call 182;refine z.mono ?_;clear z;rintro e O⟨rfl,m⟩;have au:=ak.aD m;have ai:=B.tr m;clear m)|(go_at_call 166;refine(CW.u O).mono ?_;clear CW;rintro e Q⟨A1,rfl,ad,U⟩;have aq:Hid (dU Q F (ξ A1 a.length a.length) a):=dU.Du ad (λk f _=>ah.u k (Ye ai.size f));have ar:=au.aD U;have l:=HH.u _ (ai.tr U);clear ad U))
  have X:Hid (Ll Q F c M rec fs g a s k 0 Q):=⟨F,rb,s,k,l.1,Fr.refl _ _,f,X0 _,rfl,by rw[n']⟩;have ap:=ah.u _ ax;have HO:=aC P;clear P;go_loopw [27] (λR wr=>∃b:Nat,R=ι b/\b<=a.length/\Hid (Ll Q F c M rec fs g a s k b wr)) (λR _=>a.length-aV R)
  case atStart=>exact⟨0,rfl,by omega,X⟩
  clear X;obtain⟨b,rfl,aN,p⟩:=hrel;have⟨G,rb',r,kj,J,j,N,E,H,K⟩:=p.u.fF;by_cases hj:b<a.length
  ·have:(b:Int)<a.length:=by omega
   have:(0:Int)<=b:=by omega
   have hS:=aq.u.fr j;obtain⟨q,-⟩|⟨aH,aI,aM,q,x1,x2,x3,-⟩:=hS
   ·cases q
   cases q;have cn:=x3 b a[b] (X9 hj);unfold aK at cn;rw[YO]at cn;have:=(ar.tn j.tn (λe=>e ap)).cell? (i:=0) rfl;have al:=Yu hj;have x:=LN ao ac hf a[b] g J (l.2.2.fr j) N (H.trans HO.u) aB (Ye E am);have HG:=Ib ac hf N a[b] g;have v:Hid (lj rec fs g a s=if(iJ rec fs r a[b] g).1≠0 then iJ rec fs r a[b] g else lj rec fs g (a.drop (b+1)) (iJ rec fs r a[b] g).2.2):=by show _=_;rw[K,al,lj]
   have av:=aC E;have aA:=aC H;clear N E H K x3 al p;generalize a[b]=aG at*;generalize iJ rec fs r aG g=rf at*;obtain⟨C,rn,rs⟩:=rf;simp only at x HG v;by_cases A:C=0
   ·have:((C:Int) !=0)=false:=by rw[Zi];omega
    have aE:=aC A;clear A;go_wp2_with (go_at_call 185;refine x.mono ?_;clear x;rintro e w3⟨I,D,rfl,y,t⟩)
    go_roundw
    case rel=>
     obtain⟨⟨k',g1,g2⟩,g3,g4⟩:=HG;refine⟨b+1,by go_num,by omega,⟨I,D,rs,k',y,j.trans t,g1,?_,g3.trans aA.u,?_⟩⟩
     ·have:=av.u;omega
     rw[v.u,Yb (by simp[aE.u])]
    simp only[aV];omega
   have:((C:Int) !=0)=true:=by rw[ZI];omega
   have HQ:Hid (lj rec fs g a s=(C,rn,rs)):=by show _=_;rw[v.u,Yd A]
   clear A;go_wp2_with (go_at_call 185;refine x.mono ?_;clear x;rintro e w3⟨I,D,rfl,y,t⟩)
   go_ret2
   rw[HQ.u];first
    |exact⟨I,D,rfl,y,(l.2.1.trans j).trans t⟩
    |exact⟨rfl,I,D,y,(l.2.1.trans j).trans t⟩
  have aw:b=a.length:=by omega
  subst aw;have:¬(a.length:Int)<a.length:=by omega
  have v:Hid (lj rec fs g a s=(0,0,r)):=by show _=_;rw[K,ub,lj]
  clear N E H K p;go_wp2_with fail
  go_ret2
  rw[v.u];first
   |exact⟨G,rb',rfl,J,l.2.1.trans j⟩
   |exact⟨rfl,G,rb',J,l.2.1.trans j⟩
   |exact⟨rfl,G,⟨rb',J⟩,l.2.1.trans j⟩
 have:((Y:Int) !=0)=true:=by rw[ZI];omega
 rw[Yd h1];go_in;unfold dQ;go_wp2_with (go_at_call 182;refine z.mono ?_;clear z;rintro e O⟨rfl,m⟩;have:=(ak.aD m).cell? (i:=0) rfl;have p:=aC (HH.u O.drew (B.tr m).drew);clear m)
 go_region
 all_goals go_wp2_with fail
 all_goals go_ret2
 all_goals exact⟨F,rb,rfl,p.u.1,p.u.2.1⟩
end
variable {i:TypeId}
section
variable {bh:Nat}
def bE.fe(h:bE X F c rb s)(P:X.heap.size<=Y.heap.size)(d:∀k a,F k=some a->Y.heap[k]?=X.heap[k]?)(z:∀(k:Nat) (g:hZ) (f:Nat×Nat),X.heap[k]?=some (Obj.cells g 9 f)->Y.heap[k]?=X.heap[k]?):bE Y F c rb s:=by
 have j:∀{a v G},iz X F a v rb G->iz Y F a v rb G:=λh=>h.same (λk e=>⟨d k _ e,e⟩);have r:∀{a v G},oi X F a v G->oi Y F a v G:=λh=>h.same (λk e=>⟨d k _ e,e⟩);have l:∀{v Q},dU X F v Q->dU Y F v Q:=λh=>by
  obtain h|⟨b,o,c,S,V,T,R,⟨g,f,M⟩,U⟩:=h
  ·exact .inl h
  have q:=z b g f M;refine .inr ⟨b,o,c,S,by omega,T,λy x K=>?_,⟨g,f,q.trans M⟩,U⟩;have:=R y x K;unfold World.cell? at*;rw[q];exact this
 have⟨L,t,E⟩:=h.bW;have⟨O,C,n,p⟩:=h.iL;refine⟨λk a e=>?_,h.nS,h.lQ,h.mZ,h.mW,h.mT,h.lE,(d _ _ h.nS).trans h.row,⟨L,(d _ _ h.lQ).trans t,j E⟩,h.aX.lV (d _ _ h.mZ),h.j8.lV (d _ _ h.mT),⟨O,C.lV (d _ _ h.mW),n,λw=>j (p w)⟩,λm u i=>?_,h.pl,h.ol⟩
 ·rw[d k a e];exact h.ty k a e
 have⟨J,H,I,A,N,B,D⟩:=h.aG m u i;exact⟨J,H,I,(d _ _ (h.lE m (Yl.1 i).1)).trans A,l N,l B,r D⟩
def bE.map(h:bE X F c rb s):(∃a u,X.heap[c.nm]?=some (.map a u))/\(∃a u,X.heap[c.bt]?=some (.map a u))/\(∃a u,X.heap[c.pb]?=some (.map a u)):=by obtain⟨e,b,j,-⟩:=h.aX;obtain⟨n,⟨m,d,i,-⟩,-⟩:=h.iL;obtain⟨f,g,l,-⟩:=h.j8;exact⟨⟨e,b,j⟩,⟨m,d,i⟩,⟨f,g,l⟩⟩
def bE.KZ(h:bE X F c rb s){f:hZ}{e:TypeId}{d:Nat×Nat}(a:X.heap[k]?=some (Obj.cells f e d))(l:¬pB e):F k=none:=by
 cases i:F k with
 |none=>rfl
 |some m=>
  have⟨⟨u,n,g⟩,⟨r,t,b⟩,⟨v,p,j⟩⟩:=h.map;obtain q|q|q|⟨w,z,x,o,y⟩:=h.ty k m i
  ·rw[q,g]at a;cases a
  ·rw[q,b]at a;cases a
  ·rw[q,j]at a;cases a
  rw[o]at a;cases a;exact absurd y l
def bE.rest(h:bE X F c rb s){o:Obj}(a:X.heap[k]?=some o)(d:o.isCells=false)(i:k≠c.nm)(e:k≠c.bt)(f:k≠c.pb):F k=none:=by
 cases b:F k with
 |none=>rfl
 |some g=>
  obtain q|q|q|⟨j,n,m,l,p⟩:=h.ty k g b
  ·exact absurd q i
  ·exact absurd q e
  ·exact absurd q f
  rw[l]at a;cases a;cases d
def bE.vi(h:bE X F c rb s)(f:Fr F G X Y)(j:c.nm<g)(d:c.bt<g)(B:c.pb<g):KeepsFrom g X Y:=⟨f.tn.size,λk o i a b=>(f.tn.block k (X8.1 a).1 (λe=>e (h.rest a b (by omega) (by omega) (by omega)))).trans a⟩
def bE.Xv(h:bE X F c rb s)(f:Fr F G X Y)(d:dq X->dq Y)(p:c.nm<=g)(j:c.bt<=g)(l:c.pb<=g):kU g X Y:=⟨d,λk n m a=>(f.tn.block k (X8.1 a).1 (λe=>e (h.KZ a (by unfold pB;decide)))).trans a,λk o a b i=>(f.tn.block k (X8.1 b).1 (λe=>e (h.rest b i (by omega) (by omega) (by omega)))).trans b,f.tn.size⟩
def S1(h:aF X g i l)(u:az):KeepsFrom bf X (X.ψ g o u):=by refine⟨by simp[World.setCell],λk f _ a d=>(Ys X (η g o) u k (λe=>?_)).trans a⟩;unfold aF at h;simp only at e;rw[e,h]at a;cases a;cases d
structure il(w:ay)(F:dS)(c:Ad)(G:dS)(rb:Nat->Nat)(s:St)(v3:az)(er bh:Nat)(W:ay):Prop where
 fF:bE W G c rb s
 fr:Fr F G w W
 r0:aF W w.heap.size 264 [π c.rd]
 r1:aF W (w.heap.size+1) 24 [ι (er:Int)]
 r2:aF W (w.heap.size+2) 3 [ι (bh:Int)]
 r3:aF W (w.heap.size+3) 265 [v3]
 g0:G w.heap.size=none
 g1:G (w.heap.size+1)=none
 g2:G (w.heap.size+2)=none
 g3:G (w.heap.size+3)=none
def il.step(h:il w F c G rb s v3 er bh X)(m:bE Y n c rb' p)(f:Fr G n X Y):il w F c n rb' p v3 er bh Y:=⟨m,h.fr.trans f,h.r0.tn f.tn (λe=>e h.g0),h.r1.tn f.tn (λe=>e h.g1),h.r2.tn f.tn (λe=>e h.g2),h.r3.tn f.tn (λe=>e h.g3),f.fS _ h.r0.lt h.g0,f.fS _ h.r1.lt h.g1,f.fS _ h.r2.lt h.g2,f.fS _ h.r3.lt h.g3⟩
def il.aD(h:il w F c G rb s v3 er bh X)(a:μ X Y):il w F c G rb s v3 er bh Y:=h.step (h.fF.aD a) (Fr.aD a)
def Cs(h:Fr F G w X)(f:w.heap.size=g)(e:g<=bf)(o:Nat)(u:az):Fr F G w (X.ψ bf o u):=⟨⟨h.tn.os,h.tn.tape,h.tn.output,by have:=h.tn.size;simpa [World.setCell]using this,λk d a=>(Ys X (η bf o) u k (by simp only;omega)).trans (h.tn.block k d a)⟩,h.fS⟩
def bE.DC(h:bE X F c rb s)(a:aF X g i l)(d:i≠9)(f:F g=none)(u:az):bE (X.ψ g o u) F c rb s:=by
 refine h.fe (by simp[World.setCell]) (λk m e=>Ys X (η g o) u k (λq=>?_)) (λk j b e=>Ys X (η g o) u k (λq=>?_))
 ·simp only at q;rw[q,f]at e;cases e
 simp only at q;unfold aF at a;rw[q,a]at e;cases e;exact d rfl
def il.open(h:il w F c G rb s v3 er bh X)(u:az):il w F c G rb s u er bh (X.ψ (w.heap.size+3) 0 u):=⟨h.fF.DC h.r3 (by decide) h.g3 u,Cs h.fr rfl (by omega) _ _,h.r0.dI (by omega) _ _,h.r1.dI (by omega) _ _,h.r2.dI (by omega) _ _,h.r3.set 0 u,h.g0,h.g1,h.g2,h.g3⟩
def il.mf(h:il w F c G rb s v3 er bh X)(b d:Nat):il w F c G rb s v3 b d ((X.ψ (w.heap.size+1) 0 (ι b)).ψ (w.heap.size+2) 0 (ι d)):=by have a:il w F c G rb s v3 b bh (X.ψ (w.heap.size+1) 0 (ι b)):=⟨h.fF.DC h.r1 (by decide) h.g1 _,Cs h.fr rfl (by omega) _ _,h.r0.dI (by omega) _ _,h.r1.set 0 _,h.r2.dI (by omega) _ _,h.r3.dI (by omega) _ _,h.g0,h.g1,h.g2,h.g3⟩;exact⟨a.fF.DC a.r2 (by decide) a.g2 _,Cs a.fr rfl (by omega) _ _,a.r0.dI (by omega) _ _,a.r1.dI (by omega) _ _,a.r2.set 0 _,a.r3.dI (by omega) _ _,a.g0,a.g1,a.g2,a.g3⟩
def il.bG{β:Type}{B:Nat}(x:w.heap.size<=B)(v:c.nm<B)(t:c.bt<B)(u:c.pb<B):OwnFrom B (λ(_:β) W=>il w F c G rb s v3 er bh W):=λ_ X Y A h a l=>by
 have g:∀(k:Nat) (f:hZ) (e:TypeId) (b:Nat×Nat),X.heap[k]?=some (Obj.cells f e b)->Y.heap[k]?=X.heap[k]?:=λk f e b d=>a.block k (X8.1 d).1 (λq=>by have⟨_,o,j,r⟩:=l k q.symm;rw[d]at j;cases j;cases r);have i:∀k,k<B->k<X.heap.size->Y.heap[k]?=X.heap[k]?:=λk d n=>a.block k n (λq=>by have:=(l k q.symm).1;omega);refine⟨h.fF.fe a.size (λk p e=>?_) (λk f b e=>g k f _ b e),⟨⟨a.os.trans h.fr.tn.os,a.tape.trans h.fr.tn.tape,a.output.trans h.fr.tn.output,Ye h.fr.tn.size a.size,λk d m=>(i k (by omega) (Yo d h.fr.tn.size)).trans (h.fr.tn.block k d m)⟩,h.fr.fS⟩,(g _ _ _ _ h.r0).trans h.r0,(g _ _ _ _ h.r1).trans h.r1,(g _ _ _ _ h.r2).trans h.r2,(g _ _ _ _ h.r3).trans h.r3,h.g0,h.g1,h.g2,h.g3⟩;obtain q|q|q|⟨f,z,b,y,-⟩:=h.fF.ty k p e
 ·exact i k (by omega) (h.fF.lt e)
 ·exact i k (by omega) (h.fF.lt e)
 ·exact i k (by omega) (h.fF.lt e)
 exact g k f z b y
def qB(b:Nat)(a:aj)(w:ay):ay:=((((w.alloc (.cells #[π b] 264)).alloc (.cells #[ι 0] 24)).alloc (.cells #[ι 0] 3)).alloc (.cells #[.pointer none] 265)).alloc (.cells #[.string ⟨a.toArray⟩] 9)
def QG(a:aj)(h:bE w F c rb s):il w F c F rb s (.pointer none) 0 0 (qB c.rd a w)/\aF (qB c.rd a w) (w.heap.size+4) 9 [σ a]/\(qB c.rd a w).heap.size=w.heap.size+5/\μ w (qB c.rd a w):=by
 have e:(qB c.rd a w).heap.size=w.heap.size+5:=by simp[qB]
 have b:μ w (qB c.rd a w):=(((((ak w _).alloc (by simp only[X_];omega) _).alloc (by simp only[X_];omega) _).alloc (by simp only[X_];omega) _).alloc (by simp only[X_];omega) _);have d:∀k:Nat,(qB c.rd a w).heap[k]?=(((((w.heap.push (.cells #[π c.rd] 264)).push (.cells #[ι 0] 24)).push (.cells #[ι 0] 3)).push (.cells #[.pointer none] 265)).push (.cells #[σ a] 9))[k]?:=λ_=>rfl;refine⟨⟨h.aD b,Fr.aD b,?_,?_,?_,?_,h.out ax,h.out (by omega),h.out (by omega),h.out (by omega)⟩,?_,e,b⟩;all_goals(unfold aF;rw[d];simp only[afT,Array.size_push];repeat (first|rw[Yd trivial]|rw[Yd (by omega)]|rw[Yb (by omega)]))
 all_goals rfl
end


