/- . -/
import Derived.Test.YtjelacjggijmfaaGreatDoorYLay
import Derived.Test.YtjelacjggijmfaaGreatDoorYPWr
import Derived.Shelf.SlIter.Nil
set_option linter.all false
set_option maxHeartbeats 10000000
set_option maxRecDepth 1000000
namespace Go.Proofs.YtjelacjggijmfaaGreatDoor
open Pl Mk Cp Proofs.Tryz
variable {j:Er}{N:aj->Nv}{d k n xb er z A:Nat}{b r e v t s a:aj}{P:Program}{i f W W' X:ay}{q outs:List (Nat×aj)}{c m:fv}{o H:f'}{p vn vb vb' J:az}{l:fy}{h w:aA}{y B:UInt8}{C D:Bool}{E F:Obj}{G:Nat×aj}
namespace Cp
def IV(h:Mk.has y t=true):(after y t).length<t.length:=by
 induction t with
 |nil=>cases h
 |cons x a b=>
  unfold after;by_cases e:(x==y)=true
  ·rw[List.dropWhile_cons_of_neg (by rw[e];simp)];simp
  rw[List.dropWhile_cons_of_pos (by simpa using e)];have d:Mk.has y a=true:=by
   unfold Mk.has at h⊢;rw[Zk]at h;have:(y==x)=false:=by rw[Yi];intro q;exact e (by rw[q];exact beq_self_eq_true _)
   rw[this,l8]at h;exact h
  have:=b d;unfold after at this;simp only[Ya];omega
def yq:(ic a k).bC=k:=by unfold ic;split<;>rfl
def Bf(N:Bs->Nv)(I:UInt8->Option Bs):∀(n k:Nat),301-k<=n->∀(l:Nat) (t:Bs),t.length<=l->∀(m:List Bs) (a:Bs),∃d,b_ N I m k a t d/\k<=d.bC:=by
 intro n;induction n with
 |zero=>
  intro k G l;induction l with
  |zero=>intro t A m a;have:t=[]:=Y4.1 (by omega);subst this;exact⟨_,b_.pc rfl,by rw[yq];exact X0 _⟩
  |succ l v=>
   intro t A m a;cases e:Mk.has 36 t with
   |false=>exact⟨_,b_.pc e,by rw[yq];exact X0 _⟩
   |true=>
    have z:=IV e;cases f:after 36 t with
    |nil=>exact⟨_,b_.nil e f,X0 _⟩
    |cons c b=>
     rw[f,Ya]at z;by_cases o:c=36
     ·subst o;have⟨d,h,i⟩:=v b (by omega) m (dt (dt a (Mk.bo 36 t)) [36]);exact⟨d,b_.y9 e f h,i⟩
     by_cases p:c=40
     ·subst p;by_cases j:Mk.has 41 b=false\/eT (Mk.bo 41 b)=false
      ·exact⟨_,b_.im e f j,X0 _⟩
      have x:Mk.has 41 b=true:=by
       cases q:Mk.has 41 b with
       |true=>rfl|false=>exact absurd (.inl q) j
      have y:eT (Mk.bo 41 b)=true:=by
       cases q:eT (Mk.bo 41 b) with
       |true=>rfl|false=>exact absurd (.inr q) j
      exact⟨⟨[],5,k+1⟩,(b_.qR (r:=⟨[],5,k+1⟩) e f x y (.inl ⟨by omega,rfl⟩)).1 (by simp),l' _⟩
     cases u:I c with
     |none=>exact⟨_,(b_.pa (r:=⟨[],1,k⟩) e f o p).1 u,X0 _⟩
     |some r=>have⟨d,h,i⟩:=v b (by omega) m (dt (dt a (Mk.bo 36 t)) r);exact⟨d,(b_.pa e f o p).2 r u h,i⟩
 |succ n C=>
  intro k G l;induction l with
  |zero=>intro t A m a;have:t=[]:=Y4.1 (by omega);subst this;exact⟨_,b_.pc rfl,by rw[yq];exact X0 _⟩
  |succ l v=>
   intro t A m a;cases e:Mk.has 36 t with
   |false=>exact⟨_,b_.pc e,by rw[yq];exact X0 _⟩
   |true=>
    have z:=IV e;cases f:after 36 t with
    |nil=>exact⟨_,b_.nil e f,X0 _⟩
    |cons c b=>
     rw[f,Ya]at z;by_cases o:c=36
     ·subst o;have⟨d,h,i⟩:=v b (by omega) m (dt (dt a (Mk.bo 36 t)) [36]);exact⟨d,b_.y9 e f h,i⟩
     by_cases p:c=40
     ·subst p;by_cases j:Mk.has 41 b=false\/eT (Mk.bo 41 b)=false
      ·exact⟨_,b_.im e f j,X0 _⟩
      have x:Mk.has 41 b=true:=by
       cases q:Mk.has 41 b with
       |true=>rfl|false=>exact absurd (.inl q) j
      have y:eT (Mk.bo 41 b)=true:=by
       cases q:eT (Mk.bo 41 b) with
       |true=>rfl|false=>exact absurd (.inr q) j
      obtain⟨d,D,H⟩:∃d,rJ N I m k (Mk.bo 41 b) d/\k+1<=d.bC:=by
       by_cases w:300<k+1
       ·exact⟨⟨[],5,k+1⟩,.inl ⟨w,rfl⟩,X0 _⟩
       cases B:(N (Mk.bo 41 b)).oA with
       |false=>exact⟨⟨(N (Mk.bo 41 b)).aU,0,k+1⟩,.inr (.inr (.inr ⟨w,B,rfl⟩)),X0 _⟩
       |true=>
        by_cases E:Mk.bo 41 b∈m
        ·exact⟨⟨[],4,k+1⟩,.inr (.inl ⟨w,B,E,rfl⟩),X0 _⟩
        have⟨d,h,i⟩:=C (k+1) (by omega) _ (N (Mk.bo 41 b)).aU ax (m++[Mk.bo 41 b]) [];exact⟨d,.inr (.inr (.inl ⟨w,B,E,h⟩)),i⟩
      by_cases F:d.er=0
      ·have⟨q,h,i⟩:=C d.bC (by omega) _ (after 41 b) ax m (dt (dt a (Mk.bo 36 t)) d.bK);exact⟨q,(b_.qR e f x y D).2 F q h,by omega⟩
      exact⟨_,(b_.qR e f x y D).1 F,by show k<=d.bC;omega⟩
     cases u:I c with
     |none=>exact⟨_,(b_.pa (r:=⟨[],1,k⟩) e f o p).1 u,X0 _⟩
     |some r=>have⟨d,h,i⟩:=v b (by omega) m (dt (dt a (Mk.bo 36 t)) r);exact⟨d,(b_.pa e f o p).2 r u h,i⟩
def jG(a b:Bs):Prop:=a=b\/(2000<a.length/\2000<b.length)
def jG.add(h:jG a b)(c:Bs):jG (dt a c) (dt b c):=by
 obtain rfl|⟨e,d⟩:=h
 ·exact .inl rfl
 unfold dt;rw[Yb (by omega),Yb (by omega)];exact .inr ⟨e,d⟩
def jG.kg(h:jG a b)(k:Nat):ic a k=ic b k:=by
 obtain rfl|⟨d,c⟩:=h
 ·rfl
 unfold ic;rw[Yd d,Yd c]
def jG.symm{a b:Bs}(h:jG a b):jG b a:=by
 obtain rfl|⟨d,c⟩:=h
 ·exact .inl rfl
 exact .inr ⟨c,d⟩
def jG.cU(a b:Bs):jG (dt a b) (a++b):=by
 unfold dt;split
 ·exact .inl rfl
 exact .inr ⟨by omega,by rw[X4];omega⟩
section
variable {I:UInt8->jj}
def expB(N:Bs->Nv)(I:UInt8->Option Bs)(f:Nat)(m:List Bs)(k:Nat)(A:Bs)(h:Bool)(e:Bs):Option Er:=
 if h=false then some (ic A k) else
  match e with
  |[]=>some ⟨[],1,k⟩
  |c::a=>
   if c=36 then eD N I f m k (dt A [36]) a
   else if c=40 then
    if Mk.has 41 a=false\/eT (Mk.bo 41 a)=false then some ⟨[],1,k⟩
    else if 300<k+1 then some ⟨[],5,k+1⟩
    else if(N (Mk.bo 41 a)).oA=true then
     if Mk.bo 41 a∈m then some ⟨[],4,k+1⟩
     else match eD N I f (m++[Mk.bo 41 a]) (k+1) [] (N (Mk.bo 41 a)).aU with
      |none=>none
      |some b=>if b.er=0 then eD N I f m b.bC (dt A b.bK) (after 41 a) else some ⟨[],b.er,b.bC⟩
    else eD N I f m (k+1) (dt A (N (Mk.bo 41 a)).aU) (after 41 a)
   else match I c with
    |none=>some ⟨[],1,k⟩
    |some d=>eD N I f m k (dt A d) a
def yf(f:Nat)(m:List Bs)(k:Nat)(a t:Bs):eD N I (f+1) m k a t=expB N I f m k (dt a (Mk.bo 36 t)) (Mk.has 36 t) (after 36 t):=by rw[eD,expB.eq_def];rfl
def Ig{f:Nat}(j:∀(m:List Bs) (k:Nat) (a b t:Bs),jG a b->eD N I f m k a t=eD N I f m k b t)(m:List Bs)(k:Nat){B:Bs}(i:jG r B)(h:Bool)(l:Bs):expB N I f m k r h l=expB N I f m k B h l:=by
 unfold expB;rw[i.kg];split
 ·rfl
 cases l with|nil=>rfl|cons c d=>simp only;rw[j m k _ _ d (i.add [36]),j m (k+1) _ _ (after 41 d) (i.add _)];have p:∀e:Er,eD N I f m e.bC (dt r e.bK) (after 41 d)=eD N I f m e.bC (dt B e.bK) (after 41 d):=λe=>j m _ _ _ _ (i.add _);have q:∀o,eD N I f m k (dt r o) d=eD N I f m k (dt B o) d:=λo=>j m _ _ _ _ (i.add _);simp only[p,q]
theorem BI:∀(f:Nat) (m:List Bs) (k:Nat) (a b t:Bs),jG a b->eD N I f m k a t=eD N I f m k b t
 |0,_,_,_,_,_,_=>rfl|f+1,m,k,a,b,t,h=>by rw[yf,yf];exact Ig (BI f) m k (h.add _) _ _
def b_.aE(h:jG a b)(d:b_ N I m k a t j):b_ N I m k b t j:=by have⟨f,c⟩:=d;exact⟨f,by rw[<-BI f m k a b t h];exact c⟩
def b_.xz(l:y≠36)(h:b_ N I m k (a++[y]) t j):b_ N I m k a (y::t) j:=by
 have⟨f,b⟩:=h;cases f with
 |zero=>cases b
 |succ f=>
  refine⟨f+1,?_⟩;rw[yf]at b⊢;have i:(y==36)=false:=by simpa using l
  have o:Mk.bo 36 (y::t)=y::Mk.bo 36 t:=by unfold Mk.bo;rw[ZF,i];rfl
  have v:Mk.has 36 (y::t)=Mk.has 36 t:=by unfold Mk.has;rw[Zk];rw[show ((36:UInt8)==y)=false by simpa using λe=>l e.symm,l8]
  have r:after 36 (y::t)=after 36 t:=by unfold after;rw[ZT,i];rfl
  rw[o,v,r];rw[Ig (BI f) m k (B:=dt (a++[y]) (Mk.bo 36 t)) ?_]
  ·exact b
  have d:=jG.cU (a++[y]) (Mk.bo 36 t);rw[YB]at d;obtain e|⟨p,q⟩:=jG.cU a (y::Mk.bo 36 t)
  ·rw[e];exact d.symm
  obtain e|⟨c,g⟩:=d
  ·rw[e];exact .inr ⟨p,q⟩
  exact .inr ⟨p,c⟩
def lG:Mk.has 36 (36::t)=true/\Mk.bo 36 (36::t)=[]/\after 36 (36::t)=t:=by
 refine⟨?_,?_,?_⟩
 ·simp[Mk.has]
 ·simp[Mk.bo]
 simp[after]
def U2(a:Bs)(k:Nat):(ic a k).bC=k/\((ic a k).er=0->(ic a k).bK.length<=2000):=by
 unfold ic;split
 ·exact⟨rfl,λh=>by cases h⟩
 exact⟨rfl,λ_=>by simp only;omega⟩
theorem uw:∀(f:Nat) (m:List Bs) (k:Nat) (a t:Bs) (d:Er),eD N I f m k a t=some d->k<=d.bC/\(d.er=0->d.bK.length<=2000)/\(k<=300->d.er=0->d.bC<=300)
 |0,_,_,_,_,_,h=>by cases h
 |f+1,m,k,a,t,d,h=>by
  rw[yf]at h;generalize dt a (Mk.bo 36 t)=A at h;generalize Mk.has 36 t=b at h;generalize after 36 t=r at h;unfold expB at h;split at h
  ·cases h;have⟨z,p⟩:=U2 A k;exact⟨by omega,p,λw _=>by omega⟩
  cases r with
  |nil=>cases h;exact⟨X0 _,λe=>(by cases e),λ_ e=>(by cases e)⟩
  |cons c B=>
   simp only at h;split at h
   ·exact uw f _ _ _ _ _ h
   split at h
   ·split at h
    ·cases h;exact⟨X0 _,λe=>(by cases e),λ_ e=>(by cases e)⟩
    split at h
    ·cases h;exact⟨l' _,λe=>(by cases e),λ_ e=>(by cases e)⟩
    split at h
    ·split at h
     ·cases h;exact⟨l' _,λe=>(by cases e),λ_ e=>(by cases e)⟩
     split at h
     ·cases h
     rename_i q u;have⟨y,C,v⟩:=uw f _ _ _ _ _ u;split at h
     ·rename_i i;have⟨o,l,j⟩:=uw f _ _ _ _ _ h;exact⟨by omega,l,λx e=>j (v (by omega) i) e⟩
     rename_i i;cases h;exact⟨by simp only;omega,λe=>absurd e i,λ_ e=>absurd e i⟩
    have⟨o,l,j⟩:=uw f _ _ _ _ _ h;exact⟨by omega,l,λ_ e=>j (by omega) e⟩
   split at h
   ·cases h;exact⟨X0 _,λe=>(by cases e),λ_ e=>(by cases e)⟩
   exact uw f _ _ _ _ _ h
def b_.XC(h:b_ N I m k a t j):k<=j.bC/\(j.er=0->j.bK.length<=2000)/\(k<=300->j.er=0->j.bC<=300):=by have⟨f,b⟩:=h;exact uw f _ _ _ _ _ b
def b_.step(e:b_ N I m k a t j)(h:∀q,b_ N I m d b r q->b_ N I m k a t q):b_ N I m d b r j:=by obtain⟨q,c,-⟩:=Bf N I 301 d (by omega) r.length r ax m b;obtain rfl:=e.mx (h q c);exact c
def Hq{l:Bs}(h:∀x∈l.take n,x≠y):(n=l.length->Mk.has y l=false)/\(∀h:n<l.length,l[n]=y->Mk.has y l=true/\Mk.bo y l=l.take n/\after y l=l.drop (n+1)):=by
 have a:∀x∈l.take n,(!(x==y))=true:=λx f=>by simpa using h x f
 refine⟨λe=>?_,λd e=>?_⟩
 ·unfold Mk.has;rw[afL,ZB];intro q;rw[e,YR]at h;exact h y q rfl
 have b:l=l.take n++y::l.drop (n+1):=by rw[<-e,List.getElem_cons_drop,C0]
 refine⟨?_,?_,?_⟩
 ·unfold Mk.has;rw[afL,aej,<-e];exact Ym d
 ·unfold Mk.bo
  conv=>lhs;rw[b]
  rw[abi a,ZF];simp
 unfold after
 conv=>lhs;rw[b]
 rw[adV a,ZT];simp
end
end Cp
section
open RowKit
structure Rn where
 name:aj
 aU:aj
 jF:Bool
abbrev js:=List Rn
def vH(W:ay)(b c:Nat)(L:js):Prop:=∀a (h:a<L.length),W.cell? ⟨b,c+a*3,none⟩=some (aK L[a].name)/\W.cell? ⟨b,c+a*3+1,none⟩=some (aK L[a].aU)/\W.cell? ⟨b,c+a*3+2,none⟩=some (.bool L[a].jF)
def nR(L:js)(n:aj):Nv:=match L.reverse.find? (λx=>x.name==n) with
 |none=>qT
 |some x=>⟨x.aU,!x.jF⟩
def JG{a:js}{x:Rn}:nR (a++[x]) b=if(x.name==b)=true then⟨x.aU,!x.jF⟩ else nR a b:=by unfold nR;rw[adX,List.reverse_singleton,H3,Zt];cases h:x.name==b<;>simp
def UT{L:js}(h:d<L.length)(n:aj):nR (L.take (d+1)) n=if(L[d].name==n)=true then⟨L[d].aU,!L[d].jF⟩ else nR (L.take d) n:=by rw[Yn h,JG]
def vH.aP{L:js}{B:Nat}(h:vH i k d L)(c:Below B i f)(a:k<B):vH f k d L:=λw b=>by have⟨j,e,l⟩:=h w b;exact⟨(c.cell (p:=η k _) a).trans j,(c.cell (p:=η k _) a).trans e,(c.cell (p:=η k _) a).trans l⟩
def Xq(L:js)(name:aj)(e:Ending):Prop:=(∃a,∃h:a<L.length,e=.returned (ι (a:Int))/\nR L name=⟨L[a].aU,!L[a].jF⟩/\L[a].name=name)\/(e=.returned (ι (-1))/\nR L name=qT)
def eo(c:aj)(a:fv):Bool:=decide (c∈a)
def QH(L:js)(name:aj)(a:fY)(g b o:Nat)(w:ay)(p:0<L.length->a=some ⟨b,o,none⟩)(l:vH w b o L)(C:L.length<=1073741824):
 Calls prog 206 #[.slice a L.length g,σ name] w λe v=>v =w/\Xq L name e:=by
 have A:Hid (nR L name=nR (L.take L.length) name):=aC (by rw[YR]);go_enter func206,ntmps206;go_wp2_with fail
 go_loopw [5] (λj wr=>∃c:Nat,j= ι ((c:Int)-1)/\c<=L.length/\Hid (nR L name=nR (L.take c) name)/\wr=w) (λj _=>match j with| .int _ x=>(x+1).toNat|_=>0)
 case atStart=>exact⟨L.length,by go_num,X0 _,A,rfl⟩
 obtain⟨c,rfl,D,f,q⟩:=hrel;subst q;cases c with
 |zero=>
  have r:¬(0:Int)<=(((0:Nat):Int)-1):=by decide
  go_wp2_with fail
  go_ret;refine⟨rfl,.inr ⟨rfl,?_⟩⟩;rw[f.u];rfl
 |succ c=>
  have i:(((c+1:Nat):Int)-1)=(c:Int):=by omega
  rw[i];obtain rfl:=(aC p).u (by omega);obtain⟨y,-,-⟩:=l c (by omega);have r:(0:Int)<=c:=by omega
  have d:=aC (UT (show c<L.length by omega) name);unfold aK at y;cases h:L[c].name==name with
  |true=>
   rw[h]at d;go_wp2_with fail
   go_ret;refine⟨rfl,.inl ⟨c,by omega,rfl,?_,by simpa using h⟩⟩;rw[f.u,d.u];exact Yd (by first|trivial|rfl)
  |false=>
   rw[h]at d;go_wp2_with fail
   go_roundw
   case rel=>exact⟨c,by go_num,by omega,aC (by rw[f.u,d.u];rfl),trivial⟩
   simp
def Fv(d:fv)(c:aj)(a:fY)(g b r:Nat)(w:ay)(y:0<d.length->a=some ⟨b,r,none⟩)(x:nU w b r d)(E:d.length<=1073741824):
 Calls prog 115 #[.slice a d.length g,.string ⟨c.toArray⟩] w λe z=>e=.returned (.bool (eo c d))/\z =w:=by
 go_in;go_wp2
 go_loopw [5] (λp wr=>∃f:Nat,p=ι f/\f<=d.length/\c∉d.take f/\wr=w) (λp _=>d.length-aV p)
 case atStart=>exact⟨0,rfl,Yh _,λh=>(by cases h),rfl⟩
 obtain⟨f,rfl,F,v,C⟩:=hrel;subst C;by_cases o:f<d.length
 ·obtain rfl:=(aC y).u (by omega);have B:=x f o;have D:(f:Int)<d.length:=by omega
  unfold aK at B;by_cases i:d[f]=c
  ·have t:(d[f]==c)=true:=by simpa using i
   have j:Hid (eo c d=true):=(Y6 (i▸Ym o));go_wp2
   rw[<-j.u];go_ret;exact⟨rfl,rfl⟩
  have t:(d[f]==c)=false:=by simpa using i
  have j:Hid (c∉d.take (f+1)):=(by
   rw[Yn o];intro q;obtain q|q:=Yv.1 q
   ·exact v q
   exact i (Yc.1 q).symm)
  go_wp2
  go_roundw
  case rel=>exact⟨f+1,by go_num,by omega,j,trivial⟩
  simp only[aV];omega
 have D:¬(f:Int)<d.length:=by omega
 have j:Hid (eo c d=false):=(Y9 (by have:=v;rw[YF (by omega)]at this;exact this));go_wp2
 go_ret;exact⟨by rw[j.u];rfl,rfl⟩
end
namespace Mk
def rs(a:Bs)(b:Bool):List Bs:=if b then jc a else []
def yT(t:Bs):jc t=bo 10 t::rs (after 10 t) (has 10 t):=by
 unfold has;induction t with
 |nil=>rfl
 |cons c a i=>
  unfold jc;by_cases h:c=10
  ·subst h;simp[bo,rs,after]
  have b:(c==10)=false:=by simpa using h
  have f:((10:UInt8)==c)=false:=by simpa using λe=>h e.symm
  rw[b,i,Zk,f];simp only[YN,Z4,WU,List.tail_cons,l8];have j:bo 10 (c::a)=c::bo 10 a:=by unfold bo;rw[ZF,b];rfl
  have d:after 10 (c::a)=after 10 a:=by unfold after;rw[ZT,b];rfl
  rw[j,d]
def xR(c:UInt8)(t:Bs):(bo c t).length+(after c t).length+(if has c t then 1 else 0)=t.length:=by
 unfold has;induction t with
 |nil=>rfl
 |cons x a j=>
  by_cases h:x=c
  ·subst h;simp[bo,after]
  have b:(x==c)=false:=by simpa using h
  have f:(c==x)=false:=by simpa using λe=>h e.symm
  have i:bo c (x::a)=x::bo c a:=by unfold bo;rw[ZF,b];rfl
  have d:after c (x::a)=after c a:=by unfold after;rw[ZT,b];rfl
  rw[i,d,Zk,f,l8,Ya,Ya];omega
def T1(t:Bs):jc t≠[]:=by rw[yT];simp
def RS(d:Bs)(c:Nat)(b a:Bs)(h:ew b=true):
 f_ d c b (rs a true)=f_ (d++b.dropLast++[32]) (c+1) (gj (bo 10 a)) (rs (after 10 a) (has 10 a)):=by unfold rs;rw[Yd rfl,yT a,f_,h];rfl
def Q5(d:Bs)(c:Nat)(a b:Bs)(h:ew a=false):f_ d c a (rs b true)=(d++a,c,rs b true):=by unfold rs;rw[Yd rfl,yT b,f_,h];rfl
def O5(c:Bs)(a:Nat)(b d:Bs):f_ c a b (rs d false)=(c++gR b,a,rs d false):=by unfold rs;simp[f_]
def rp(a:List Bs):Nat:=(a.map (λs=>s.length+1)).sum
def mJ(a:List (Nat×Bs)):Nat:=(a.map (λx=>x.2.length+1)).sum
def t_:rp (a::c)=a.length+1+rp c:=by simp[rp]
def uf(x:Nat×Bs):mJ (x::q)=x.2.length+1+mJ q:=by simp[mJ]
def Eo:rp (jc t)=t.length+1:=by
 induction t with
 |nil=>rfl
 |cons c a d=>
  unfold jc;by_cases h:c=10
  ·subst h;simp only[beq_self_eq_true,Z8,t_,d,Yr,Ya];omega
  have f:(c==10)=false:=by simpa using h
  rw[f];simp only[YN,Z4];cases b:jc a with
  |nil=>exact absurd b (T1 a)
  |cons j i=>rw[b]at d;simp only[t_,WU,List.tail_cons,Ya] at*;omega
def Ow(a:Bs):(gR a).length<=a.length:=BT _ a
theorem E8:∀(e:List Bs) (c:Bs) (d:Nat) (b:Bs),(f_ c d b e).1.length+1+rp (f_ c d b e).2.2<=c.length+b.length+1+rp e
 |[],c,d,b=>by have:=Ow b;simp only[f_,X4];omega
 |q::f,c,d,b=>by
  unfold f_;cases h:ew b with
  |true=>
   simp only[Z8];have:=E8 f (c++b.dropLast++[32]) (d+1) (gj q);have:=xd q;have:b.dropLast.length+1=b.length:=by
    cases b with
    |nil=>simp[ew]at h
    |cons a i=>simp
   simp only[X4,Ya,Yr,t_] at*;omega
  |false=>simp only[YN,Z4,X4,t_];omega
theorem EW:∀(f n:Nat) (c:List Bs),mJ (me f n c)<=rp c
 |0,_,_=>by simp[me,mJ]
 |_+1,_,[]=>by simp[me,mJ]
 |f+1,n,b::a=>by have:=E8 a [] 1 b;have:=EW f (n+(f_ [] 1 b a).2.1) (f_ [] 1 b a).2.2;rw[me,uf,t_];simp only[Yr] at*;omega
def ua(t:Bs):mJ (dF t)<=t.length+1:=by rw[<-Eo];exact EW _ _ _
theorem GJ:∀{a:List (Nat×Bs)} {x:Nat×Bs},x∈a->x.2.length+1<=mJ a
 |y::a,x,h=>by
  rw[uf];obtain rfl|h:=YD.1 h
  ·omega
  have:=GJ h;omega
def wG{x:Nat×Bs}(h:x∈dF t):x.2.length<=t.length:=by have:=GJ h;have:=ua t;omega
def O7(c:UInt8)(a:Bs):(bo c a).length<=a.length:=by unfold bo;exact(ab9 _).length_le
def wM(w:Bs):(bD w).1.left.length<=w.length/\(bD w).1.right.length<=w.length/\(bD w).1.cK<=5:=by
 unfold bD;split
 ·unfold oM;split
  ·simp[Ln.zero]
  have:=xd w;simp only[Yr];omega
 have:=s6 (bo 35 w);have:=O7 35 w;generalize cut (bo 35 w)=a at*;split
 ·simp[Ln.zero]
 split
 ·unfold lU;split
  ·simp[Ln.zero]
  have:=s6 (a.drop 7);simp only[Yr,Zu] at*;omega
 unfold gG;split
 ·simp[Ln.zero]
 split
 ·have:=s6 (a.takeWhile dh);have:=s6 (iG (a.dropWhile dh)).2;have:=GF (a.dropWhile dh);have:=Eu dh a;have:(a.takeWhile dh).length<=a.length:=(ab9 _).length_le;have:(iG (a.dropWhile dh)).1<=5:=by unfold iG;split<;>simp
  simp only;omega
 simp[Ln.zero]
def qK(a:List (Ln×Nat)):Nat:=(a.map (λx=>x.1.left.length+x.1.right.length+12)).sum
def PU(x:Ln×Nat){a:List (Ln×Nat)}:qK (x::a)=x.1.left.length+x.1.right.length+12+qK a:=by simp[qK]
theorem Gg:∀a:List (Nat×Bs),qK (eO a)<=12*mJ a
 |[]=>by simp[eO,qK]
 |(n,w)::b=>by
  have:=Gg b;have:=wM w;rw[uf];unfold eO;split
  ·omega
  rw[PU];split
  ·simp only;omega
  simp only[qK,Z9,List.sum_nil];omega
def RA(t:Bs):qK (eO (dF t))<=12*(t.length+1):=by have:=Gg (dF t);have:=ua t;omega
theorem Bw:∀{b:List (Nat×Bs)} {x:Ln×Nat},x∈eO b->∃y∈b,x=({(bD y.2).1 with eK:=y.1},(bD y.2).2)
 |(n,w)::c,x,h=>by
  unfold eO at h;split at h
  ·have⟨y,a,e⟩:=Bw h;exact⟨y,Yp _ a,e⟩
  obtain rfl|h:=YD.1 h
  ·exact⟨(n,w),Yq ..,rfl⟩
  split at h
  ·have⟨y,a,e⟩:=Bw h;exact⟨y,Yp _ a,e⟩
  cases h
def B9{t:Bs}{x:Ln×Nat}(h:x∈eO (dF t)):x.1.left.length<=t.length/\x.1.right.length<=t.length/\x.1.cK<=5:=by obtain⟨y,a,rfl⟩:=Bw h;have:=wG a;have:=wM y.2;simp only;omega
def NE(a:Bs):Prop:=∀c,a.getLast?=some c->dV c=false
def Bv(a:UInt8->Bool)(h:∀c,b.getLast?=some c->a c=false):mi a b=b:=by
 obtain rfl|⟨r,c,rfl⟩:=adA b
 ·rfl
 rw[afC] at*;rw[AF,h c (by simp)];rfl
def UO(h:NE b):sq b=b:=Bv dV h
theorem F0(a:UInt8->Bool):∀f:Bs,∀c,(mi a f).getLast?=some c->a c=false
 |[],c,h=>by cases h
 |x::e,c,h=>by
  rw[yb]at h;split at h
  ·cases h
  rename_i d;cases b:mi a e with
  |nil=>rw[b]at h d;simp at h d;subst h;exact d
  |cons y z=>rw[b,List.getLast?_cons_cons,<-b]at h;exact F0 a e c h
def Ui:NE (sq a):=F0 dV a
def Wh(a:Bs):NE (cut a):=by rw[<-I6];exact Ui
def yh:[32].intercalate (b::r::c)=b++32::[32].intercalate (r::c):=by simp[List.intercalate,List.intersperse]
def Rk:[32].intercalate [b]=b:=by simp[List.intercalate,List.intersperse]
theorem zV(a:UInt8->Bool):∀b:Bs,b.dropWhile a=[]↔∀c∈b,a c=true
 |[]=>by simp
 |x::d=>by
  rw[ZT];cases h:a x with
  |true=>simp[zV a d,h]
  |false=>simp[h]
def rk(a:Ln×Nat):Nat:=if a.2==0 then(if a.1.cK==0 then 0 else if a.1.cK==1 then 99 else if a.1.cK==2 then 105 else if a.1.cK==3 then 102 else if a.1.cK==4 then 108 else 114) else 120
def M5(a:Bs)(k:Nat)(b:k<a.length)(c:(a.take k).all (λx=> !(x==35))=true)(d:a[k]=35):bo 35 a=a.take k:=by
 have h:a=a.take k++35::a.drop (k+1):=by rw[<-d,<-Yu b,C0]
 unfold bo
 conv=>lhs;rw[h]
 rw[abi (by simpa [List.all_eq_true]using c)];simp
def MG(b:a.all (λx=> !(x==35))=true):bo 35 a=a:=by unfold bo;have h:=abi (p:=λx:UInt8=> !(x==35)) (l₁:=a) (l₂:=[]) (by simpa [List.all_eq_true]using b);simpa using h
def SX(b:Bs)(k:Nat)(e:k<b.length)(f:(b.take k).all dh=true)(d:dh b[k]=false):b.takeWhile dh=b.take k/\b.dropWhile dh=b.drop k:=by
 have h:b=b.take k++b[k]::b.drop (k+1):=by rw[<-Yu e,C0]
 have c:∀a∈b.take k,dh a=true:=by simpa [List.all_eq_true]using f
 constructor
 ·conv=>lhs;rw[h]
  rw[abi c,ZF,d];simp
 conv=>lhs;rw[h]
 rw[adV c,ZT,d];simp
def U0(b:a.all dh=true):rk (gG a)=120:=by
 have:a.dropWhile dh=[]:=by rw[zV];simpa [List.all_eq_true]using b
 unfold gG;rw[this];rfl
def Wj(a:Bs)(k:Nat)(b:k<a.length)(f:(a.take k).all dh=true)(e:dh a[k]=false):
 gG a=if fV (iG (a.drop k)).1 (cut (a.take k)) then(⟨0,(iG (a.drop k)).1,cut (a.take k),cut (iG (a.drop k)).2⟩,0) else(Ln.zero,1):=by
 have⟨c,h⟩:=SX a k b f e;have d:(a.drop k).isEmpty=false:=by rw[Yu b];rfl
 unfold gG;rw[c,h,d];rfl
def Qu(k:Nat)(b:k<a.length)(h:a[k]=61):iG (a.drop k)=(4,a.drop (k+1)):=by rw[Yu b,h];rfl
def OF(a:Bs)(k:Nat)(b:k+1<a.length)(h:a[k]=58)(c:a[k+1]=61):iG (a.drop k)=(3,a.drop (k+2)):=by rw[Yu (by omega),Yu b,h,c];rfl
def Mx(k:Nat)(c:k+1=a.length)(h:a[k]=58):iG (a.drop k)=(5,a.drop (k+1)):=by
 have b:a.drop (k+1)=[]:=by rw[D0];omega
 rw[Yu (by omega),h,b];rfl
def QC(a:Bs)(k:Nat)(e:k+1<a.length)(h:a[k]=58)(d:a[k+1]≠61):iG (a.drop k)=(5,a.drop (k+1)):=by
 rw[Yu (by omega),Yu e,h];generalize a[k+1]=c at d;unfold iG;split
 ·rename_i b;simp at b;exact absurd b.1 d
 ·rename_i b;simp at b
 rfl
def RF(a:Bs)(h:iK.isPrefixOf a=false):jf a=false:=by unfold jf;rw[h];rfl
def Ef:iK.isPrefixOf a=(a.take 7==iK):=by
 rw[ZE,aci,Zj];constructor
 ·intro h;have:=List.prefix_iff_eq_take.1 h;exact this.symm
 intro h;rw[<-h];exact List.take_prefix 7 a
def NC(a:Bs)(b:7<a.length):jf a=((a.take 7==iK)&&dV a[7]):=by unfold jf;rw[Ef,Yu b]
def M9(a:Bs)(b:a.length<=7)(c:a≠iK):jf a=false:=by refine RF a ?_;rw[Ef,YF b];simpa using c
def P0(a:Bs)(e:a≠iK):(∃h:7<a.length,(a.take 7==iK)=true/\dV a[7]=true/\jf a=true)\/
 (jf a=false/\(a.length<=7\/∃h:7<a.length,(a.take 7==iK)=false\/((a.take 7==iK)=true/\dV a[7]=false))):=by
 by_cases h:7<a.length
 ·have b:=NC a h;cases d:(a.take 7==iK) with
  |false=>rw[d]at b;exact .inr ⟨b,.inr ⟨h,.inl rfl⟩⟩
  |true=>
   rw[d]at b;cases c:dV a[7] with
   |false=>rw[c]at b;exact .inr ⟨b,.inr ⟨h,.inr ⟨rfl,c⟩⟩⟩
   |true=>rw[c]at b;exact .inl ⟨h,rfl,c,b⟩
 exact .inr ⟨M9 a (by omega) e,.inl (by omega)⟩
def Ol(X:Bs)(k:Nat)(j:k<(cut X).length):cut ((cut X).drop k)≠[]:=by
 intro h;have a:(cut X).drop k≠[]:=by rw[Ne,D0];omega
 have d:NE ((cut X).drop k):=by intro c e;refine Wh X c ?_;rw[List.getLast?_drop,Yb (by omega)]at e;exact e
 generalize (cut X).drop k=D at*;unfold cut gj at h;rw[UO d]at h;have b:=d _ (abR a);rw[((zV _ _).1 h) _ (List.getLast_mem a)]at b;cases b
def Pk(X:a=cut b)(h:7<a.length):lU (cut (a.drop 7))=(⟨0,2,[],cut (a.drop 7)⟩,0):=by subst X;have:=Ol b 7 h;unfold lU;rw[L4.2 this];rfl
structure uW(T:Bs)(k kd:Nat)(rest:Bs):Prop where
 qU:fV kd (cut (T.take k))=true->gG T=(⟨0,kd,cut (T.take k),cut rest⟩,0)
 no:fV kd (cut (T.take k))=false->rk (gG T)=120
def uW.of(f:k<b.length)(i:(b.take k).all dh=true)(e:dh b[k]=false)(h:iG (b.drop k)=(d,r)):uW b k d r:=by
 have c:=Wj b k f i e;rw[h]at c;constructor
 ·intro a;rw[c,Yd a]
 intro a;rw[c,Yb (by rw[a];decide)];rfl
def out(x:Ln×Nat):Bs:=Ko (written x.1)
def Q7(w:Bs):(bD w).2<=1:=by
 unfold bD
 repeat' split
 all_goals try (simp;done)
 ·unfold lU;split<;>simp
 unfold gG
 repeat' split
 all_goals simp
open RowKit
section
def M0{α:Type}{g:Operand}{ps:Array Tmp}{assign body:Code}{Q:Exit->Act->ay->Prop}{a:Act}{gf:Nat}{lb:hZ}(hg:a.eval g=.func (.func gf) #[] lb)(eg:∀args i,(callFunc gf args).run P i=.ok (.enter gf args) i){ac:α->hZ}{j:Nat->ay->ay->Prop}{L:List α}(aP:xE P gf lb ac j L f)(aa:∀{J:Nat} {A B ap:ay},j J A B->j J B ap->j J A ap)(ag:∀(W:ay) (J:Nat) (am o':Obj),i.heap.size<=J->W.heap[J]?=some am->am.isCells=false->j J W (W.putObj J o'))(ah:μ f i)(aJ:∀x,(ac x).size=ps.size)(y:List α->ay->Prop)(Ix:Code->List α->ay->Prop)(N:OwnFrom i.heap.size y)(ae:∀c,OwnFrom i.heap.size (Ix c))(h0:y [] i)(Ax:α->Act->ay->Prop)(aS:∀x u,OwnFrom i.heap.size (λ(_:Unit) W=>Ax x u W))(aG:∀(b:List α) (x:α) (post:List α) (W:ay) (K:Act->ay->Prop),L=b++x::post->y b W->
  (∀u W',KeepsFrom i.heap.size W W' ->j (i.heap.size+1) W W' ->y b W' ->Ax x u W' ->K u W')->
  assign.wpIn (Fence.wide.inRound (i.heap.size+1)) 9 P (Exit.then K (λ_ _ _=>False)) {tmps:=(ps.zip (ac x)).foldl (λt (ad,v)=>t.setIfInBounds ad v) a.tmps,defers:=[]} W)(aB:∀(b:List α) (x:α) (post:List α) (u:Act) (W:ay),L=b++x::post->y b W->Ax x u W->
  body.wpIn (Fence.wide.inRound (i.heap.size+1)) 9 P (FV i.heap.size (j (i.heap.size+1)) y Ix (b++[x]) W) u W)(aF:∀(D:Nat) (W:ay),i.heap.size<=D->y L W->W.heap[D]?=some (.deferred (some []))->Q .normal {a with defers:={target:=.collected D,args:= #[]}::a.defers} W)(aT:∀(D:Nat) (c:Code) (b post:List α) (W:ay),i.heap.size<=D->L=b++post->Ix c b W->W.heap[D]?=some (.deferred (some []))->
  c.wpIn Fence.wide 9 P Q {a with defers:={target:=.collected D,args:= #[]}::a.defers} W):
 (Code.rangeFunc g ps assign body).wpIn Fence.wide 9 P Q a i:=by
 refine wpIn_rangeFunc λfn aM=>?_;obtain⟨l,r⟩:∃l:LoopState->Option Code->Loop,∀s ad,l s ad={state:=s,pending:=ad,fn:=fn,tmps:=a.tmps,params:=ps,assign:=assign,body:=body,defers:=i.heap.size}:=⟨_,λ_ _=>rfl⟩;obtain⟨V,Z⟩:∃V,V=(i.alloc (.deferred (some []))).alloc (.loop (l .ready none)):=⟨_,rfl⟩;have aW:V.heap.size=i.heap.size+2:=by rw[Z];simp
 have aU:V.heap[i.heap.size+1]?=some (.loop (l .ready none)):=by have:=H5 (i.alloc (.deferred (some []))) (.loop (l .ready none));rw[X_]at this;rw[Z];exact this
 have aR:V.heap[i.heap.size]?=some (.deferred (some [])):=by rw[Z];exact(Z0 _ _ _ (by simp)).trans (H5 i _)
 obtain⟨H,hJ⟩:∃H:List α->ay->Prop,H=λb W=>y b W/\W.heap[i.heap.size+1]?=some (.loop (l .ready none))/\W.heap[i.heap.size]?=some (.deferred (some [])):=⟨_,rfl⟩;obtain⟨S,ak⟩:∃S:List α->ay->Prop,S=λb W=>∃c,Ix c b W/\W.heap[i.heap.size+1]?=some (.loop (l .done (some c)))/\W.heap[i.heap.size]?=some (.deferred (some [])):=⟨_,rfl⟩;have aO:OwnFrom V.heap.size H:=by
  rw[hJ];rintro s X Y m⟨C,o,E⟩R F;have O:∀k,m=some k->i.heap.size+2<=k:=λk e=>by have:=(F k e).1;omega
  exact⟨N s X Y m C R (λk e=>⟨by have:=O k e;omega,(F k e).2⟩),same_below R O (by omega) o,same_below R O (by omega) E⟩
 have aH:OwnFrom V.heap.size S:=by
  rw[ak];rintro s X Y m⟨c,C,o,E⟩R F;have O:∀k,m=some k->i.heap.size+2<=k:=λk e=>by have:=(F k e).1;omega
  exact⟨c,ae c s X Y m C R (λk e=>⟨by have:=O k e;omega,(F k e).2⟩),same_below R O (by omega) o,same_below R O (by omega) E⟩
 have aA:μ f V:=by rw[Z];exact(ah.alloc ah.size _).alloc (by have:=ah.size;simp;omega) _
 have aw:H [] V:=by rw[hJ];exact⟨by rw[Z];exact N.alloc _ (N.alloc _ h0),aU,aR⟩
 have aC:∀b x post M,L=b++x::post->H b M->YieldAt Fence.wide 9 P (i.heap.size+1) (ac x) M λe W'=>
  (e=.returned (.bool true)/\H (b++[x]) W'/\j (i.heap.size+1) M W')\/(e=.returned (.bool false)/\S (b++[x]) W'/\j (i.heap.size+1) M W'):=by
  intro b x post M hL hj;rw[hJ]at hj;obtain⟨C,o,E⟩:=hj;have hy:=run_yield (P:=P) (args:=ac x) o (by rw[r];exact aJ x);simp only[r]at hy;refine⟨fn,_,assign,body,hy,roundIn_of_wpIn aM (aG b x post M _ hL C ?_)⟩;intro u W2 ar an av aK;have ab:=ar.same _ _ (by omega) o rfl;have aL:=ar.same _ _ ax E rfl;refine⟨_,run_beginRound ab (by rw[r]),?_⟩;obtain⟨q,U⟩:∃q,q=W2.putObj (i.heap.size+1) (.loop {l .ready none with state:=.busy}):=⟨_,rfl⟩;rw[<-U];have aD:=(X8.1 ab).1;have aI:q.heap[i.heap.size+1]?=some (.loop {l .ready none with state:=.busy}):=by rw[U];exact abT aD
  have au:q.heap[i.heap.size]?=some (.deferred (some [])):=by rw[U];exact(Zo (by omega)).trans aL
  have aq:j (i.heap.size+1) W2 q:=by rw[U];exact ag _ _ _ _ (by omega) ab rfl
  have aV:y b q:=by rw[U];exact N.putObj _ av (by omega) ab rfl
  have aQ:Ax x u q:=by rw[U];exact(aS x u).putObj (s:=()) _ aK (by omega) ab rfl
  refine wpIn_mono (aB b x post u q hL aV aQ) ?_;have ao:∀(G:Option Code) (d:ay),KeepsFrom i.heap.size q d->∃w,(Instr.endRound (i.heap.size+1) G).run P d=.ok (.bool G.isNone) w/\
   w=d.putObj (i.heap.size+1) (.loop (l (if G.isNone then .ready else .done) G))/\d.heap[i.heap.size+1]?=some (.loop {l .ready none with state:=.busy})/\
   w.heap[i.heap.size+1]?=some (.loop (l (if G.isNone then .ready else .done) G))/\w.heap[i.heap.size]?=some (.deferred (some [])):=by
   intro G d T;have z:=T.same _ _ (by omega) aI rfl;have aN:=T.same _ _ ax au rfl;have I:=run_endRound (P:=P) G z;simp only[r]at I;refine⟨_,I,by simp only[r],z,?_,?_⟩
   ·simp only[r];exact abT (X8.1 z).1
   exact(Zo (by omega)).trans aN
  have n:∀(c:Code) (d:ay),KeepsFrom i.heap.size q d->j (i.heap.size+1) q d->Ix c (b++[x]) d->∃v w,(Instr.endRound (i.heap.size+1) (some c)).run P d=.ok v w/\
   ((Ending.returned v=.returned (.bool true)/\H (b++[x]) w/\j (i.heap.size+1) M w)\/(Ending.returned v=.returned (.bool false)/\S (b++[x]) w/\j (i.heap.size+1) M w)):=by
   intro c d T al hx;obtain⟨w,F,e5,z,ai,af⟩:=ao (some c) d T;exact⟨_,w,F,.inr ⟨rfl,by rw[ak];exact⟨c,by rw[e5];exact(ae c).putObj _ hx (by omega) z rfl,ai,af⟩,aa an (aa aq (aa al (by rw[e5];exact ag _ _ _ _ (by omega) z rfl)))⟩⟩
  rintro e a4 d p;cases e with
  |normal=>obtain⟨T,al,aE⟩:=p;obtain⟨w,F,e5,z,ai,af⟩:=ao none d T;refine⟨_,w,F,.inl ⟨rfl,by rw[hJ];exact⟨by rw[e5];exact N.putObj _ aE (by omega) z rfl,ai,af⟩,?_⟩⟩;exact aa an (aa aq (aa al (by rw[e5];exact ag _ _ _ _ (by omega) z rfl)))|ret=>exact n _ d p.1 p.2.1 p.2.2
  |exit id=>exact n _ d p.1 p.2.1 p.2.2
  |goto t=>exact n _ d p.1 p.2.1 p.2.2
  |panic ch=>exact p.elim
  |outgrown=>exact p.elim
 refine⟨i.heap.size+1,[{target:=.collected i.heap.size,args:= #[]}],V,{target:=.fn (.func gf) lb,args:= #[.func (.yield (i.heap.size+1)) #[] #[]]},V,gf,
  #[.func (.yield (i.heap.size+1)) #[] #[]]++lb,V,?_,?_,λ_ _=>trivial,?_,λh=>by simp[Fence.wide]at h,?_⟩
 ·rw[Z,r];exact run_enterLoop_outer _ _ _ _ _
 ·simp only[resolve,hg];simp[go_sem]
 ·simp[invoke,go_sem,eg]
 refine(EY (aP (i.heap.size+1) H S V (by omega) aA aO aH aC aw)).mono ?_;rintro e W2⟨⟨v,rfl⟩,h|⟨b,post,hL,h⟩⟩
 ·rw[hJ]at h;obtain⟨C,o,E⟩:=h;have I:=afE (P:=P) o (by rw[r];simp);simp only[r]at I;exact⟨none,_,I,aF _ _ ax (N.putObj _ C (by omega) o rfl) ((Zo (by omega)).trans E)⟩
 rw[ak]at h;obtain⟨c,C,o,E⟩:=h;have I:=afE (P:=P) o (by rw[r];simp);simp only[r]at I;exact⟨some c,_,I,aT _ c b post _ ax hL ((ae c).putObj _ C (by omega) o rfl) ((Zo (by omega)).trans E)⟩
end
end Mk
section
open RowKit
def ku(B b:Nat)(a:hU)(w:ay):Prop:=Lib.IsBuilderF 158 5 B b (Lib.byteCells a) w
variable {u:aj}
def ku.kept{B b:Nat}{w:ay}(h:ku B b e w)(j:∀(k:Nat) (c:hZ) (t:TypeId) (f:Nat×Nat),w.heap[k]?=some (Obj.cells c t f)->i.heap[k]?=some (Obj.cells c t f)):ku B b e i:=by
 have l:∀a,Lib.BuilderAtF 158 5 B b a (Lib.byteCells e) w->Lib.BuilderAtF 158 5 B b a (Lib.byteCells e) i:=by
  rintro a⟨r,v,o,⟨p,d⟩,q⟩;refine⟨r,v,j _ _ _ _ o,⟨p,?_⟩,q⟩;obtain d|⟨g,s,u,y,z,n,x,m⟩:=d
  ·exact .inl d
  exact .inr ⟨g,s,u,y,z,n,j _ _ _ _ x,m⟩
 obtain h|h:=h
 ·exact .inl (l _ h)
 exact .inr (l _ h)
def ku.aD(h:ku d k e f)(c:μ f i):ku d k e i:=ku.kept h (λB _ _ _ a=>(c.block B (X8.1 a).1).trans a)
def ku.nE(w:ay):ku w.heap.size w.heap.size [] (w.alloc (.cells #[.pointer none,ς] 158)):=Lib.IsBuilderF.of (Lib.fresh_isBuilder _ _ w)
def AL(B b:Nat)(c:hU)(s:aA)(w:ay)(h:ku B b c w)(d:c.length+s.size<=140737488355328)(l:B<=w.heap.size):
 Calls prog 75 #[π b,.string s] w λe a=>e=.returned (.tuple #[ι s.size,.nilIface])/\ku B b (c++s.data.toList) a/\Below B w a/\Lib.OthersKept 5 (some b) w a:=by refine κ (Any.Builder_WriteString_k Tryz.VZ Tryz.vI B b _ s w h (by rw[ZJ];exact d) l) λa⟨j,f,i⟩=>?_;exact⟨rfl,by unfold ku;rw[C'];exact .inr j,f,i⟩
def Va(B b:Nat)(d:hU)(c:UInt8)(n:Int)(p:n=c.toNat)(w:ay)(h:ku B b d w)(f:d.length+1<=140737488355328)(l:B<=w.heap.size):
 Calls prog 78 #[π b,.int .u8 n] w λe a=>e=.returned .nilIface/\ku B b (d++[c]) a/\Below B w a/\Lib.OthersKept 5 (some b) w a:=by subst p;refine κ (Any.Builder_WriteByte_k Tryz.VN Tryz.vI B b _ c.toNat w h (by rw[ZJ];exact f) l) λa⟨j,i,o⟩=>?_;exact⟨rfl,by unfold ku;rw[C'];exact .inr j,i,o⟩
def Jt(B b:Nat)(c:hU)(w:ay)(h:ku B b c w)(j:B<=w.heap.size):
 Calls prog 79 #[π b] w λe a=>e=.returned (σ c)/\ku B b c a/\Below B w a/\Lib.OthersKept 5 (some b) w a:=by refine κ (Any.Builder_String_any_k Tryz.VS Tryz.vI B b c w h j) λa⟨i,d,f⟩=>?_;exact⟨rfl,i,d,f⟩
def EE(h:ew e=true):e.dropLast.length+1=e.length:=by
 cases e with
 |nil=>simp[ew]at h
 |cons a b=>simp
def uJ(cU:hU)(a:Nat)(c:hU)(b:Bool):az:=.tuple #[.string ⟨cU.toArray⟩,ι a,.string ⟨c.toArray⟩,.bool b]
def QU(a:hU):(gR a).length<=a.length:=BT _ a
def zg:az->Nat
 | .bool b=>if b then 1 else 0
 |_=>0
structure sV(t:hU)(aE p rest:hU)(gT:Bool)(used:Nat):Prop where
 eq:f_ [] 1 (Mk.bo 10 t) (Mk.rs (after 10 t) (Mk.has 10 t))=f_ aE used p (Mk.rs rest gT)
 len:aE.length+p.length+rest.length+(if gT then 1 else 0)<=t.length
 used:used+rest.length+(if gT then 1 else 0)<=1+t.length
def sV.start(t:hU):sV t [] (Mk.bo 10 t) (after 10 t) (Mk.has 10 t) 1:=⟨rfl,by have:=xR 10 t;simp only[Yr];omega,by have:=xR 10 t;omega⟩
def sV.on(h:sV t v u e true d)(a:ew u=true):
 sV t (v++u.dropLast++[32]) (gj (Mk.bo 10 e)) (after 10 e) (Mk.has 10 e) (d+1):=by
 have:=h.len;have:=h.used;have:=xR 10 e;have:=xd (Mk.bo 10 e);have:=EE a;refine⟨h.eq.trans (RS v d u e a),?_,?_⟩
 ·simp only[X4,Ya,Yr,Z8] at*;omega
 simp only[Z8] at*;omega
def MV(t:hU)(hT:t.length<=1073741824)(U:dq i):
 Calls prog 157 #[σ t] i λe w'=>∃cU H y A,e=.returned (uJ cU H y A)/\
  f_ [] 1 (Mk.bo 10 t) (Mk.rs (after 10 t) (Mk.has 10 t))=(cU,H,Mk.rs y A)/\
  cU.length+y.length+(if A then 1 else 0)<=t.length/\H+y.length+(if A then 1 else 0)<=1+t.length/\μ i w':=by
 unfold σ;have:=ea t;have s:=sV.start t;go_in;go_wp2_with fail
 refine κ (vJ 10 ⟨t.toArray⟩ _ (by omega) U) λf S=>?_;have I:=U.aD S;simp only;go_wp2_with fail
 unfold σ;go_loopw [6,7,8,9] (λG O m u wr=>∃(b a rl:hU) (z:Bool) (g:Nat),G=σ a/\O=σ rl/\m=.bool z/\u=ι g/\
  Hid (sV t b a rl z g)/\ku f.heap.size f.heap.size b wr/\μ f wr/\dq wr) (λ_ O m _ _=>pO O+zg m)
 case atStart=>exact⟨[],_,_,_,1,rfl,rfl,rfl,rfl,s,ku.nE f,ak f _,I.aD (ak f _)⟩
 obtain⟨b,a,rl,z,g,rfl,rfl,rfl,rfl,h,B,o,am⟩:=hrel;have F:=o.size;have T:=h.len;have R:=aC h.used;have:=ea a;have X:=ea rl;cases z with
 |false=>
  simp only[YN,Z4]at T;go_wp2_with fail
  refine κ (Pf ⟨a.toArray⟩ (by omega)) λE J=>?_;simp only;have P:=B.aD J;have k:=o.trans (J.mono F);have:=QU a;have:(⟨(gR a).toArray⟩:aA).size=(gR a).length:=ea _;have K:=aC (h.eq.trans (O5 b g a rl));generalize gR a=q at*;go_wp2_with fail
  refine(AL _ _ b ⟨q.toArray⟩ E P (by omega) k.size).mono ?_;rintro e j⟨rfl,d,l,-⟩;simp only at d;have c:=k.trans l;go_wp2_with fail
  refine(Jt _ _ _ j d c.size).mono ?_;rintro e M⟨rfl,-,r,-⟩;have w:=c.trans r;go_wp2_with fail
  refine Yw (v:=uJ (b++q) g rl false) (by simp[results,results157,go_sem,uJ]) rfl ⟨b++q,g,rl,false,rfl,K,?_,?_,?_⟩
  ·simp only[X4,YN,Z4];omega
  ·exact R
  exact S.tr w
 |true=>
  simp only[Z8]at T;cases p:ew a with
  |false=>
   have K:=aC (h.eq.trans (Q5 b g a rl p));go_wp2_with fail
   refine(Fb ⟨a.toArray⟩ (by omega)).mono ?_;rintro e E⟨rfl,rfl⟩;simp only;rw[p];go_wp2_with fail
   refine(AL _ _ b ⟨a.toArray⟩ wr B (by omega) F).mono ?_;rintro e j⟨rfl,d,l,-⟩;simp only at d;have c:=o.trans l;go_wp2_with fail
   refine(Jt _ _ _ j d c.size).mono ?_;rintro e M⟨rfl,-,r,-⟩;have w:=c.trans r;go_wp2_with fail
   refine Yw (v:=uJ (b++a) g rl true) (by simp[results,results157,go_sem,uJ]) rfl ⟨b++a,g,rl,true,rfl,K,?_,?_,?_⟩
   ·simp only[X4,Z8];omega
   ·exact R
   exact S.tr w
  |true=>
   have af:=h.on p;have:=EE p;have:(⟨a.dropLast.toArray⟩:aA).size=a.dropLast.length:=ea _;have:g+rl.length+1<=1+t.length:=R;have:=xR 10 rl;go_wp2_with fail
   refine(Fb ⟨a.toArray⟩ (by omega)).mono ?_;rintro e E⟨rfl,rfl⟩;simp only;rw[p];go_wp2_with fail
   refine(Nz ⟨a.toArray⟩ (by omega) p).mono ?_;rintro e E⟨rfl,rfl⟩;simp only;generalize a.dropLast=q at*;go_wp2_with fail
   refine(AL _ _ b ⟨q.toArray⟩ wr B (by omega) F).mono ?_;rintro e j⟨rfl,d,l,-⟩;simp only at d;have c:=o.trans l
   go_wp2_with fail
   refine(Va _ _ (b++q) 32 32 rfl j d (by simp only[X4];omega) c.size).mono ?_;rintro e M⟨rfl,V,r,-⟩;have w:=c.trans r;have Q:dq M:=by have⟨m,x⟩:=I;exact⟨m,(w.cell (p:=η 0 0) (ZO f _ x)).trans x⟩
   go_wp2_with fail
   refine κ (vJ 10 ⟨rl.toArray⟩ _ (by omega) Q) λw5 D=>?_;simp only;have Y:=V.aD D;have Z:=w.tr D;have N:=Q.aD D;go_wp2_with fail
   refine κ (EK) λw6 C=>?_;simp only;have L:=Y.aD C;have ai:=Z.tr C;have ah:=N.aD C;generalize gj (Mk.bo 10 rl)=p' at*;have W:(⟨(after 10 rl).toArray⟩:aA).size=(after 10 rl).length:=ea _;generalize after 10 rl=n at*;generalize Mk.has 10 rl=m' at*;go_wp2_with fail
   refine⟨⟨b++q++[32],p',n,m',g+1,rfl,rfl,rfl,by go_num,af,L,ai,ah⟩,?_⟩;simp only[pO,zg,Z8];rw[W,X];omega
open Shelf
section
attribute [local go_sem] Kp
def Dz(x:Nat×hU):hZ:= #[ι x.1,.string ⟨x.2.toArray⟩]
def XG(W W':ay):Prop:=dq W->dq W'
theorem FX:∀(a:List (hU)) (c:hU) (d:Nat) (b:hU),(f_ c d b a).2.2.length<=a.length
 |[],_,_,_=>X0 _
 |q::e,c,d,b=>by
  unfold f_;split
  ·exact Ye (FX e _ _ _) (by simp)
  exact X0 _
structure ql(t:hU)(aZ:List (Nat×hU))(f n:Nat)(rl:hU)(m:Bool):Prop where
 eq:dF t=aZ++me f n (Mk.rs rl m)
 qL:(Mk.rs rl m).length<=f
 bh:n+rl.length+(if m then 1 else 0)<=t.length+2
 len:rl.length<=t.length
def ql.start(t:hU):ql t [] (jc t).length 1 t true:=⟨rfl,X0 _,by simp only[Z8];omega,X0 _⟩
def ql.round(h:ql t q k n b true)(j:f_ [] 1 (Mk.bo 10 b) (Mk.rs (after 10 b) (Mk.has 10 b))=(r,d,Mk.rs e C))(f:r.length+e.length+(if C then 1 else 0)<=b.length)(u:d+e.length+(if C then 1 else 0)<=1+b.length):
 ∃g post,dF t=q++(n,r)::post/\ql t (q++[(n,r)]) g (n+d) e C:=by have⟨a,c,l,p⟩:=h;simp only[Z8]at l;have o:Mk.rs b true=Mk.bo 10 b::Mk.rs (after 10 b) (Mk.has 10 b):=yT b;rw[o]at a c;rw[Ya]at c;obtain⟨g,rfl⟩:∃g,k=g+1:=⟨k-1,by omega⟩;rw[me,j]at a;have i:=FX (Mk.rs (after 10 b) (Mk.has 10 b)) [] 1 (Mk.bo 10 b);rw[j]at i;simp only at a i;exact⟨g,_,a,by rw[a];simp,by omega,by omega,by omega⟩
def ql.done(h:ql t q d n b false):dF t=q:=by have:=h.eq;rw[this];cases d<;>simp[Mk.rs,me]
def Np(t:hU)(h:Nat)(w:ay)(hT:t.length<=1073741824)(T:dq w)(D:w.χ h 0=some (σ t)):
 xE prog 156 #[π h] Dz (λ_=>XG) (dF t) w:=by
 intro af K r W _ C x ag N S;have:=(C.cell (p:=η h 0) (ZO w _ D)).trans D;have X:=T.aD C;refine callsIn_of_wp func156 rfl trivial ?_;simp only[ntmps156,ZM,Ya,Yr,Nat.reduceAdd,Nat.reduceSub,Rr,RR,R3,R1,Y2,Y3];gi_wp2
 gi_region
 gi_wp2
 gi_loopw [3,4,5] (λR b d wr=>∃(a:List (Nat×hU)) (f n:Nat) (rl:hU) (m:Bool),R=ι n/\b=σ rl/\d=.bool m/\
  Hid (ql t a f n rl m)/\Hid (K a wr)/\dq wr) (λ_ b d _=>pO b+zg d)
 case atStart=>exact⟨[],_,1,t,true,rfl,rfl,rfl,ql.start t,UU x S,X.aD (X5 _ _).drew⟩
 obtain⟨a,f,n,rl,m,rfl,rfl,rfl,c,o,G⟩:=hrel;cases m with
 |false=>
  have P:=aC c.u.done;gi_wp2
  go_end0
  exact⟨⟨_,rfl⟩,.inl (by rw[P.u];exact o.u)⟩
 |true=>
  have:=c.u.len;have L:=c.u.bh;simp only[Z8]at L;gi_wp2_with fail
  refine⟨trivial,(Zm.2 (MV rl (by omega) G)).mono ?_⟩;rintro e w2⟨cU,z,b,d,rfl,B,l,y,i⟩;have⟨g,k,j,v⟩:=c.u.round B l y;have E:=uz x o.u i;have⟨fn,ad,s,ac,q,H⟩:=N a (n,cU) k w2 j E;have Z:=G.aD i;have HX:Hid (∀I,r (a++[(n,cU)]) I ->∃a k,dF t=a++k/\r a I):=λI Q=>⟨_,k,by rw[j];simp,Q⟩;have O:=aC l;unfold uJ;unfold Dz at q;simp only at q;gi_wp2_with fail
  refine(xY H).mono ?_;rintro e W3 (⟨rfl,F,A⟩|⟨rfl,M,-⟩)
  ·have U:=aC F;have V:=A Z;have:z<=1+rl.length:=by omega
   gi_wp2_with fail
   go_roundw
   case rel=>exact⟨a++[(n,cU)],g,n+z,b,d,by go_num,rfl,rfl,v,U,V⟩
   have Y:(⟨b.toArray⟩:aA).size=b.length:=ea _;have J:(⟨rl.toArray⟩:aA).size=rl.length:=ea _;have:=O.u;simp only[pO,zg,Z8,Y,J];omega
  gi_wp2_with fail
  refine Yw (Zr rfl _ _ _) rfl ?_;exact⟨⟨_,rfl⟩,.inr (HX.u _ M)⟩
end
section
attribute [local go_sem] Kp
def Pv:
 Calls prog 120 #[.string h] i λe a=>e=.returned (.func (.func 156) #[] #[π i.heap.size])/\i.alloc (.cells #[.string h] 9)=a:=by
 go_in;go_wp2
 go_ret;exact⟨rfl,rfl⟩
def UD:
 Calls prog 74 #[.string h] i λe a=>e=.returned (.func (.func 119) #[] #[π i.heap.size])/\i.alloc (.cells #[.string h] 9)=a:=by
 go_in;go_wp2
 go_ret;exact⟨rfl,rfl⟩
def zq(x:Ln×Nat):hZ:= #[dQ x.1,ι x.2]
structure kU(l:Nat)(W W':ay):Prop where
 fQ:dq W->dq W'
 Ds:∀(k:Nat) (c:hZ) (f:Nat×Nat),W.heap[k]?=some (Obj.cells c 234 f)->W'.heap[k]?=some (Obj.cells c 234 f)
 uV:∀(k:Nat) (o:Obj),l<k->W.heap[k]?=some o->o.isCells=false->W'.heap[k]?=some o
 size:W.heap.size<=W'.heap.size
def ES(h:dq W)(f:W.heap[d]?=some E)(c:E.isCells=false):dq (W.putObj d F):=by have⟨m,i⟩:=h;exact⟨m,cell_kept i (G1 W d F) (λj e=>by cases e;exact⟨E,f,c⟩)⟩
def RE(B:Nat){β:Type}:OwnFrom B (λ(_:β) W=>dq W):=λ_ X Y g c d b=>by have⟨m,f⟩:=c;exact⟨m,cell_kept f d (λa e=>(b a e).2)⟩
def GK{α:Type}{L a b:List α}{x:α}(h:L=a++x::b):L.drop a.length=x::b/\L.drop (a++[x]).length=b:=by subst h;refine⟨adl,?_⟩;rw[show a++x::b=(a++[x])++b from by simp];exact adl
def Vp(B:Nat){c:hZ}{t:TypeId}{β:Type}:OwnFrom B (λ(_:β) W=>W.heap[k]?=some (Obj.cells c t (0,0))):=λ_ X Y g a f d=>by refine(f.block k (X8.1 a).1 (λe=>?_)).trans a;have⟨_,i,b,h⟩:=d k e.symm;rw[a]at b;cases b;cases h
def RL(t:hU)(B:Nat)(w:ay)(hT:t.length<=1073741824)(hg:dq w)(aB:w.χ B 0=some (σ t)):
 xE prog 119 #[π B] zq kU (eO (dF t)) w:=by
 intro G R Jx W aV hW S aE hY h0;have au:=(hW.cell (p:=η B 0) (ZO w _ aB)).trans aB;refine acs func119 rfl trivial ?_;simp only[ntmps119,ZM,Ya,Yr,Nat.reduceAdd,Nat.reduceSub,Rr,RR,R3,R1,Y2,Y3];have aK:∀d,(W.alloc d).χ B 0=some (σ t):=λd=>((ak W d).cell (p:=η B 0) (ZO W _ au)).trans au;gi_wp2_with fail
 refine⟨trivial,(Zm.2 (Pv)).mono ?_⟩;rintro e w2⟨rfl,rfl⟩;gi_wp2_with fail
 clear aK;obtain⟨V,T⟩:∃V,V=((W.alloc (.cells #[.func (.yield G) #[] #[]] 234)).alloc (.cells #[σ t] 9)):=⟨_,rfl⟩;rw[<-T];have aS:V.heap.size=W.heap.size+2:=by rw[T];simp
 have aw:μ W V:=by rw[T];exact(ak W _).alloc (by simp) _
 have aF:=(hg.aD hW).aD aw;have aN:V.heap[W.heap.size]?=some (Obj.cells #[.func (.yield G) #[] #[]] 234 (0,0)):=by rw[T];exact(Z0 _ _ _ (by simp)).trans (H5 W _)
 have aJ:V.χ (W.heap.size+1) 0=some (σ t):=by have:=H5 (W.alloc (.cells #[.func (.yield G) #[] #[]] 234)) (.cells #[σ t] 9);rw[X_,<-T]at this;simp[World.cell?,this]
 clear T;have ax:=F6 S (show W.heap.size<=V.heap.size by omega);have aO:=F6 aE (show W.heap.size<=V.heap.size by omega);refine Ba (gf:=156) (lb:= #[π (W.heap.size+1)]) rfl (mL func156 (by kernel_rfl) rfl)
  (Np t (W.heap.size+1) V hT aF aJ) (λh k g=>k (h g)) (λb l1 d o' _ hl r J=>ES J hl r) (X5 _ _) (λ_=>rfl)
  (λaZ b=>∃a,eO (dF t)=a++eO ((dF t).drop aZ.length)/\R a b/\b.heap[W.heap.size]?=some (Obj.cells #[.func (.yield G) #[] #[]] 234 (0,0))/\dq b)
  (λc _ b=>c=.ret/\(R (eO (dF t)) b\/∃af an,eO (dF t)=af ++an/\Jx af b))
  (λs X Y N hs Z P=>by obtain⟨a,q,C,h3,h4⟩:=hs;exact⟨a,q,ax _ X Y N C Z P,Vp V.heap.size () X Y N h3 Z P,RE V.heap.size () X Y N h4 Z P⟩)
  (λc s X Y N hs Z P=>by
   obtain⟨q,C|⟨p1,p2,C,h3⟩⟩:=hs
   ·exact⟨q,.inl (ax _ X Y N C Z P)⟩
   exact⟨q,.inr ⟨p1,p2,C,aO _ X Y N h3 Z P⟩⟩)
  ⟨[],rfl,uz S h0 aw,aN,aF⟩
  (λx a' _=>a' ={tmps:= #[.func (.yield G) #[] #[],π B,π W.heap.size,ι x.1,σ x.2,undef,undef,σ t,
   .func (.func 156) #[] #[π (W.heap.size+1)],ι x.1,σ x.2,undef,undef,undef,undef,undef,undef,undef,undef,undef,undef,undef,undef,undef,undef,undef,undef,undef,undef,undef,undef,undef,undef,undef],defers:=[]})
  (λ_ _ _ _ _ _ hs _ _=>hs) ?assign ?body ?done ?stop
 case assign=>
  rintro l1 aZ⟨n,cU⟩f b K _ hi z;unfold Dz;gi_wp2
  exact z _ _ (KeepsFrom.refl _ _) (λh=>h) hi rfl
 case body=>
  rintro l1 aZ⟨n,cU⟩f a' b hL⟨a,Q,y,U,J⟩rfl;have aU:cU.length<=1073741824:=Ye (wG (x:=(n,cU)) (by rw[hL];simp)) hT;have⟨av,aq⟩:=GK hL;rw[av]at Q;have aT:(⟨cU.toArray⟩:aA).size=cU.length:=ea _;have HN:=aC aq;clear av aq hL;gi_wp2_with fail
  refine⟨trivial,(so l1 (Zm.2 (PQ ⟨cU.toArray⟩ b (by omega) J))).mono ?_⟩;rintro e o⟨rfl,M⟩;simp only;have O:eO (dF t)=a++(if (bD cU).2==0&&(bD cU).1.cK==0 then eO f
   else({(bD cU).1 with eK:=n},(bD cU).2)::(if (bD cU).2==0 then eO f else [])):=Q
  clear Q;generalize bD cU=aH at*;obtain⟨⟨nm,k,L,j⟩,m⟩:=aH;simp only at O;unfold kA dQ;simp only;have ab:=M.size;obtain⟨W3,al⟩:∃W3,W3=o.alloc (.cells #[ι n,ι k,σ L,σ j] 164):=⟨_,rfl⟩;have A:μ b W3:=by rw[al];exact M.alloc ab _
  have ai:KeepsFrom V.heap.size b W3:=qj A;have ae:=J.aD A;have ag:=uz S y A;have am:W3.heap[W.heap.size]?=_:=(A.block _ (X8.1 U).1).trans U;have ao:o.heap[W.heap.size]?=_:=(M.block _ (X8.1 U).1).trans U;have aG:=(X8.1 ao).1;have aW:∀d,(o.alloc d).χ W.heap.size 0=some (.func (.yield G) #[] #[]):=λd=>by have h5:(o.alloc d).heap[W.heap.size]?=_:=(Z0 o d _ aG).trans ao;simp[World.cell?,h5]
  by_cases ac:m=0
  ·by_cases ap:k=0
   ·subst ac ap;have aI:Hid (∃a,eO (dF t)=a++eO ((dF t).drop (aZ++[(n,cU)]).length)/\R a (o.alloc (.cells #[ι nm,ι 0,σ L,σ j] 164))/\
     (o.alloc (.cells #[ι nm,ι 0,σ L,σ j] 164)).heap[W.heap.size]?=some (Obj.cells #[.func (.yield G) #[] #[]] 234 (0,0))/\dq (o.alloc (.cells #[ι nm,ι 0,σ L,σ j] 164))):=by
     refine⟨a,?_,uz S y (M.alloc ab _),(Z0 o _ _ aG).trans ao,J.aD (M.alloc ab _)⟩;rw[HN.u,O];rfl
    clear O ag al y;gi_wp2_with fail
    exact⟨qj (M.alloc ab _),λh=>h.aD (M.alloc ab _),aI.u⟩
   have b1:((m:Int)==0)=true:=by rw[Zj];omega
   have aR:((m:Int) !=0)=false:=by rw[Zi];omega
   have b2:((k:Int)==0)=false:=by rw[Yi];omega
   have I:eO (dF t)=a++(⟨n,k,L,j⟩,m)::eO f:=by
    have c1:(m==0)=true:=by rw[Zj];exact ac
    have c2:(k==0)=false:=by rw[Yi];exact ap
    rw[O,c1,c2];rfl
   subst al;have⟨fn,tmps,assign,body,v,hR⟩:=hY a (⟨n,k,L,j⟩,m) _ _ I ag;have ah:=aC I;have ar:=aC am;unfold zq dQ at v;simp only at v;clear O ag y I ac am ap;gi_wp2_with fail
   refine(FU hR).mono ?_;rintro e W4 (⟨rfl,i,l⟩|⟨rfl,i,l⟩)
   ·have E:=aC i;clear i v;gi_wp2_with fail
    exact⟨ai.trans ⟨l.size,λH d q r F=>l.uV H d (by omega) r F⟩,λ_=>l.fQ ae,a++[(⟨n,k,L,j⟩,m)],by rw[HN.u,ah.u];simp,E.u,l.Ds _ _ _ ar.u,l.fQ ae⟩
   have E:=aC i;clear i v;gi_wp2_with fail
   exact⟨ai.trans ⟨l.size,λH d q r F=>l.uV H d (by omega) r F⟩,λ_=>l.fQ ae,rfl,.inr ⟨a++[(⟨n,k,L,j⟩,m)],_,by rw[ah.u];simp;rfl,E.u⟩⟩
  have b1:((m:Int)==0)=false:=by rw[Yi];omega
  have aR:((m:Int) !=0)=true:=by rw[ZI];omega
  have I:eO (dF t)=a++(⟨n,k,L,j⟩,m)::[]:=by
   have c1:(m==0)=false:=by rw[Yi];exact ac
   rw[O,c1];rfl
  subst al;have⟨fn,tmps,assign,body,v,hR⟩:=hY a (⟨n,k,L,j⟩,m) _ _ I ag;have ah:=aC I;have ar:=aC am;unfold zq dQ at v;simp only at v;clear O ag y I ac am;gi_wp2_with fail
  refine(FU hR).mono ?_;rintro e W4 (⟨rfl,i,l⟩|⟨rfl,i,l⟩)
  ·have E:=aC i;clear i v;gi_wp2_with fail
   exact⟨ai.trans ⟨l.size,λH d q r F=>l.uV H d (by omega) r F⟩,λ_=>l.fQ ae,rfl,.inl (by rw[ah.u];exact E.u)⟩
  have E:=aC i;clear i v;gi_wp2_with fail
  exact⟨ai.trans ⟨l.size,λH d q r F=>l.uV H d (by omega) r F⟩,λ_=>l.fQ ae,rfl,.inr ⟨a++[(⟨n,k,L,j⟩,m)],_,by rw[ah.u];simp;rfl,E.u⟩⟩
 case done=>
  rintro D b hD⟨a,Q,y,U,J⟩z;have HY:Hid (R (eO (dF t)) (b.putObj D (.deferred none))):=by
   have h9:eO (dF t)=a:=by rw[Q];simp[eO]
   show R _ _;rw[h9];exact S.putObj _ y (by omega) z rfl
  clear Q y U J;gi_wp2
  refine⟨by simp,.inl ⟨_,_,rfl,po z,?_⟩⟩;exact⟨_,Zr rfl _ _ _,⟨_,rfl⟩,.inl HY.u⟩
 rintro D c aZ f b hD hL⟨rfl,hx⟩z;have HY:Hid (R (eO (dF t)) (b.putObj D (.deferred none))\/∃af an,eO (dF t)=af ++an/\Jx af (b.putObj D (.deferred none))):=by
  obtain hx|⟨p1,p2,q,C⟩:=hx
  ·exact .inl (S.putObj _ hx (by omega) z rfl)
  exact .inr ⟨p1,p2,q,aE.putObj _ C (by omega) z rfl⟩
 clear hx hL;gi_wp2
 refine⟨by simp,.inl ⟨_,_,rfl,po z,?_⟩⟩;exact⟨_,Zr rfl _ _ _,⟨_,rfl⟩,HY.u⟩
end
def K_(w:ay)(b:Nat)(t:TypeId)(v:az):Prop:=w.heap[b]?=some (.cells #[v] t (0,0))
def kU.trans(h:kU d X i)(k:kU d i f):kU d X f:=⟨λg=>k.fQ (h.fQ g),λa c Z b=>k.Ds a c Z (h.Ds a c Z b),λa j Y b e=>k.uV a j Y (h.uV a j Y b e) e,Ye h.size k.size⟩
def kU.putObj(W:ay)(b:Nat)(i l:Obj)(h:W.heap[b]?=some i)(d:i.isCells=false):kU b W (W.putObj b l):=
 ⟨λg=>ES g h d,λk c f a=>(Zo (λe=>by subst e;rw[h]at a;cases a;cases d)).trans a,
  λk _ j a _=>(Zo (Nat.ne_of_gt j)).trans a,by simp⟩
def kU.aP(b:μ W W'):kU d W W':=⟨λg=>g.aD b,λk _ _ a=>(b.block k (X8.1 a).1).trans a,λk _ _ a _=>(b.block k (X8.1 a).1).trans a,b.size⟩
def kU.setCell{t:TypeId}{v:az}(h:K_ W k t v)(i:t≠234)(j:0<k)(u:az):kU d W (W.ψ k 0 u):=by
 unfold K_ at h;refine⟨λg=>?_,λb c f a=>(Ys W (η k 0) u b (λe=>?_)).trans a,λb q _ a l=>(Ys W (η k 0) u b (λe=>?_)).trans a,by simp[World.setCell]⟩
 ·have⟨m,o⟩:=g;exact⟨m,(((X5 k W).setCell (p:=η k 0) ax u).cell (p:=η 0 0) j).trans o⟩
 ·simp only at e;subst e;rw[a]at h;cases h;exact i rfl
 simp only at e;subst e;rw[a]at h;cases h;cases l
end
namespace Mk
def RG(s:Bs)(f k:Nat)(c:f<=k)(a:k<s.length)(b:dV s[k]=false):
 e_ ((s.take k).drop f) (s.drop k)=e_ ((s.take (k+1)).drop f) (s.drop (k+1)):=by rw[Yu a,e_,b,Yn a,abS (by simp;omega)];rfl
def wu(s:Bs)(k:Nat):(s.take k).drop k=[]:=by rw[D0];simp;omega
def Kv(s:Bs)(f k:Nat)(a:f<k)(b:k<=s.length):((s.take k).drop f).isEmpty=false:=by rw[L4,<-Y5];simp;omega
def Sd(s:Bs)(f k:Nat)(a:f<k)(b:k<s.length)(c:dV s[k]=true):
 e_ ((s.take k).drop f) (s.drop k)=[(s.take k).drop f]++e_ ((s.take (k+1)).drop (k+1)) (s.drop (k+1)):=by rw[Yu b,e_,c,Yd rfl,Kv s f k a (by omega),wu];rfl
def Ql(s:Bs)(k:Nat)(a:k<s.length)(b:dV s[k]=true):
 e_ ((s.take k).drop k) (s.drop k)=e_ ((s.take (k+1)).drop (k+1)) (s.drop (k+1)):=by rw[Yu a,e_,b,Yd rfl,wu,wu];rfl
def TJ(s:Bs)(f k:Nat)(b:f<k)(d:k=s.length):
 e_ ((s.take k).drop f) (s.drop k)=[(s.take k).drop f]++e_ ((s.take (k+1)).drop (k+1)) (s.drop (k+1)):=by
 have a:s.drop k=[]:=by rw[D0];omega
 have c:s.drop (k+1)=[]:=by rw[D0];omega
 rw[a,c,e_,Kv s f k b (by omega),wu];rfl
def Cl(s:Bs)(k:Nat)(b:s.length<=k):e_ ((s.take k).drop k) (s.drop k)=[]:=by
 have a:s.drop k=[]:=by rw[D0];omega
 rw[a,wu];rfl
def gZ(s:Bs)(f k:Nat)(a:List Bs):Prop:=bQ s=a++e_ ((s.take k).drop f) (s.drop k)
def gZ.start(s:Bs):gZ s 0 0 []:=by simp[gZ,bQ]
def gZ.xz(h:gZ s d k c)(a:d<=k)(b:k<s.length)(f:dV s[k]=false):gZ s d (k+1) c:=by rw[gZ,h,RG s d k a b f]
def gZ.Xi(h:gZ s d k c)(a:d<k)(b:k<s.length)(f:dV s[k]=true):gZ s (k+1) (k+1) (c++[(s.take k).drop d]):=by rw[gZ,h,Sd s d k a b f,YB]
def gZ.blank(h:gZ s k k c)(a:k<s.length)(b:dV s[k]=true):gZ s (k+1) (k+1) c:=by rw[gZ,h,Ql s k a b]
def gZ.dN(h:gZ s d k c)(a:d<k)(b:k=s.length):gZ s (k+1) (k+1) (c++[(s.take k).drop d]):=by rw[gZ,h,TJ s d k a b,YB]
def gZ.none(h:gZ s k k c)(a:k=s.length):gZ s (k+1) (k+1) c:=by rw[gZ,h,Cl s k (by omega),Cl s (k+1) (by omega)]
def gZ.done(h:gZ s k k c)(a:s.length<=k):bQ s=c:=by rw[h,Cl s k a,ZR]
end Mk
section
open RowKit
def ue(s:aA)(f k:Nat):s.extract f k=⟨((s.data.toList.take k).drop f).toArray⟩:=by refine ij ?_;rw[tv,ac2]
def eV(w:ay)(B:Nat)(v:az)(a:fv):Prop:=w.ownsRow B 9 1 v a.length (a.map aK)
def eV.gC(B:Obj)(v:i.heap.size=d)(l:eV f d p c)(a:Below d i f)(h:W.ownsRow d 9 1 vn (c.length+1) (c.map aK++[aK b]))(o:(f.alloc B).grownBy W p.ownBlock):eV W d vn (c++[b])/\Below d i W:=by refine⟨by simpa [eV]using h,?_⟩;have:=a.size;refine(a.alloc (by omega) B).grown o (by rw[X_];omega) ?_;intro k j;have:=(l.lt k j).1;omega
def qq(w:ay){t:TypeId}:∀(a:Nat) (u:az),[p][a]?=some u->(w.alloc (.cells #[p] t)).cell? ((⟨w.heap.size,0,none⟩:Addr).add a)=some u:=by
 intro a u b
 match a,b with
 |0,b=>simp at b;subst b;simp[Addr.add]
def uK:∀u∈[Value.string h],u.oneCell' =true:=by intro u a;simp at a;subst a;rfl
def MS(s:aA)(w:ay)(U:s.size<=4294967296):
 Calls prog 151 #[.string s] w λe A=>∃v,e=.returned v/\eV A w.heap.size v (bQ s.data.toList)/\μ w A:=by
 have⟨F,H,B,E,G⟩:=Y1 Tryz.kZ;have q:=aC (YJ s);go_in;go_wp2
 go_loopw [3,4,5] (λv M z wr=>∃(k f:Nat) (b:fv),k<=s.size+1/\f<=k/\(k=s.size+1->f=k)/\z=ι k/\M=ι f/\b.length<=k/\eV wr w.heap.size v b/\μ w wr/\gZ s.data.toList f k b)
  (λ_ _ z _=>s.size+1-(intOf z).toNat)
 case atStart=>exact⟨0,0,[],Yh _,X0 _,λ_=>rfl,rfl,rfl,X0 _,YG _ _ _ _,X5 _ _,gZ.start _⟩
 obtain⟨k,f,b,T,O,o,rfl,rfl,S,c,d,C⟩:=hrel;have:=d.size;have I:=aC (ue s f k);by_cases J:k<s.size
 ·clear o;have p:=aC (show k<s.data.toList.length by have:=q.u;omega);have D:s.data.toList[k]' p.u=s[k]:=rfl;have r:=aC D;clear D;cases x:Mk.dV (s[k]'J) with
  |false=>
   have a:=C.xz O p.u (by rw[r.u];exact x);have HR:=aC a;clear a;go_wp2_with (go_at_call 118;refine(np).mono ?_;rintro e l⟨rfl,rfl⟩)
   go_roundw
   case rel=>exact⟨k+1,f,b,by omega,by omega,by omega,by simp,rfl,by omega,c,d,HR.u⟩
   simp[intOf];omega
  |true=>
   by_cases y:f<k
   ·have a:=C.Xi y p.u (by rw[r.u];exact x);have HR:=aC a;clear a;go_wp2_with (first|(go_at_call 118;refine(np).mono ?_;rintro e l⟨rfl,rfl⟩)|(at_builtin;refine YX _ rfl (.tmp 26) (.tmp 31) 30 rfl w.heap.size 9 F (ε) 1 16 YU H B E G rfl (by decide) _ _ _ rfl (Yz c _) (η wr.heap.size 0) 1 1 [.string (s.extract f k)] rfl rfl (qq wr) (uK) (by unfold maxLen;omega) (by omega) (by rw[X_];omega) ?_))
    intro K l h j _;rw[I.u]at h;have a:=eV.gC _ rfl c d h j;clear h j;go_wp2
    go_roundw
    case rel=>exact⟨k+1,k+1,b++[(s.data.toList.take k).drop f],by omega,by omega,by omega,by go_num,by go_num,by simp;omega,a.1,a.2,HR.u⟩
    simp[intOf];omega
   obtain rfl:f=k:=by omega
   have a:=C.blank p.u (by rw[r.u];exact x);have HR:=aC a;clear a;go_wp2_with (go_at_call 118;refine(np).mono ?_;rintro e l⟨rfl,rfl⟩)
   go_roundw
   case rel=>exact⟨f+1,f+1,b,by omega,by omega,by omega,by go_num,by go_num,by omega,c,d,HR.u⟩
   simp[intOf];omega
 by_cases Q:k=s.size
 ·subst Q;by_cases y:f<s.size
  ·clear o;have a:=C.dN y (by have:=q.u;omega);have HR:=aC a;clear a;go_wp2_with (at_builtin;refine YX _ rfl (.tmp 26) (.tmp 31) 30 rfl w.heap.size 9 F (ε) 1 16 YU H B E G rfl (by decide) _ _ _ rfl (Yz c _) (η wr.heap.size 0) 1 1 [.string (s.extract f s.size)] rfl rfl (qq wr) (uK) (by unfold maxLen;omega) (by omega) (by rw[X_];omega) ?_)
   intro K l h j _;rw[I.u]at h;have a:=eV.gC _ rfl c d h j;clear h j;go_wp2
   go_roundw
   case rel=>exact⟨s.size+1,s.size+1,b++[(s.data.toList.take s.size).drop f],by omega,by omega,by omega,by go_num,by go_num,by simp;omega,a.1,a.2,HR.u⟩
   simp[intOf]
  clear o;obtain rfl:f=s.size:=by omega
  have a:=C.none (by have:=q.u;omega);have HR:=aC a;clear a;go_wp2
  go_roundw
  case rel=>exact⟨s.size+1,s.size+1,b,by omega,by omega,by omega,by go_num,by go_num,by omega,c,d,HR.u⟩
  simp[intOf]
 obtain rfl:=o (by omega);have a:=C.done (by have:=q.u;omega);have HR:=aC a;clear a;go_wp2
 go_ret;exact⟨_,rfl,by rw[HR.u];exact c,d⟩
def FZ(c:UInt8):(ld c=true)↔((97:Int)<=c.toNat/\(c.toNat:Int)<=122)\/((65:Int)<=c.toNat/\(c.toNat:Int)<=90)\/((48:Int)<=c.toNat/\(c.toNat:Int)<=57)\/(c.toNat:Int)=95:=by rw[<-xU];simp[qn];omega
def Ot(c:UInt8)(h:¬(((97:Int)<=c.toNat/\(c.toNat:Int)<=122)\/((65:Int)<=c.toNat/\(c.toNat:Int)<=90)\/((48:Int)<=c.toNat/\(c.toNat:Int)<=57)\/(c.toNat:Int)=95)):ld c=false:=by
 cases a:ld c with
 |false=>rfl|true=>exact absurd ((FZ c).1 a) h
def OX(h:a.all ld=false):eT a=false:=by simp[eT,h]
def Q9(s:aA)(k:Nat)(a:¬k<s.size)(h:(s.data.toList.take k).all ld=true):eT s.data.toList=(decide ((1:Int)<=s.size)&&decide ((s.size:Int)<=16)):=by rw[YF (by rw[<-YJ];omega)]at h;have:=YJ s;simp only[eT,h,X'];rw[ZE];simp only[Zn,R4,L4,Zy];rw[<-Y5];omega
def sI(A:h.size<=4294967296):
 Calls prog 154 #[.string h] i λe p=>e=.returned (.bool (eT h.data.toList))/\i=p:=by
 go_in;go_wp2
 go_loop [3] (λs=>∃k:Nat,k<=h.size/\s=ι k/\(h.data.toList.take k).all ld=true) (λs=>h.size-(intOf s).toNat)
 case atStart=>exact⟨0,Yh _,rfl,by simp⟩
 obtain⟨k,y,rfl,o⟩:=hrel;have j:=aC o;by_cases a:k<h.size
 ·by_cases f:((97:Int)<=((h[k]'a).toNat:Int)/\((h[k]'a).toNat:Int)<=122)\/((65:Int)<=((h[k]'a).toNat:Int)/\((h[k]'a).toNat:Int)<=90)\/((48:Int)<=((h[k]'a).toNat:Int)/\((h[k]'a).toNat:Int)<=57)\/((h[k]'a).toNat:Int)=95
  ·have c:=aC ((aC (FZ (h[k]'a))).u.2 f);have l:∃w:Nat,w<=h.size/\ι ((k:Int)+1)=ι w/\(h.data.toList.take w).all ld=true:=by refine⟨k+1,by omega,by simp,?_⟩;rw[(aC (sN h k a)).u,acA,j.u];simp[c.u]
   obtain⟨b,d⟩|⟨b,d⟩|⟨b,d⟩|b:=f;all_goals go_wp2
   all_goals exact⟨l,by simp[intOf];omega⟩
  have c:=aC (OX (Ea k (by rw[<-YJ];exact a) ((aC (Ot (h[k]'a))).u f)));rcases(show ((h[k]'a).toNat:Int)<48\/((57:Int)<((h[k]'a).toNat:Int)/\((h[k]'a).toNat:Int)<65)\/((90:Int)<((h[k]'a).toNat:Int)/\((h[k]'a).toNat:Int)<97/\¬((h[k]'a).toNat:Int)=95)\/(122:Int)<((h[k]'a).toNat:Int) from by omega)with b|⟨b,d⟩|⟨b,d,h3⟩|b;all_goals have:¬((h[k]'a).toNat:Int)=95:=by omega
  all_goals go_wp2
  all_goals first|(go_ret;exact⟨kz c.symm,rfl⟩)|(exfalso;rename_i v;simp only[Bool.not_eq_false',Zy,Zi]at v;omega)
 have c:=aC (Q9 h k a j);go_wp2
 all_goals go_ret
 all_goals(refine ⟨kz ?_,rfl⟩;rw[c.u];simp;try omega)
def iq(n:Nat)(a:Ln×Nat)(v:az):Prop:=∃L b:aA,v=.agg #[ι n,.int .u8 (rk a),.string L,.string b]/\(rk a≠120->L=⟨a.1.left.toArray⟩/\b=⟨a.1.right.toArray⟩)
def iq.of{a:Ln×Nat}{b:Int}(e:(rk a:Int)=b)(d:b≠120->h=⟨a.1.left.toArray⟩/\w=⟨a.1.right.toArray⟩):
 iq n a (.agg #[ι n,.int .u8 b,.string h,.string w]):=⟨h,w,by rw[e],λL=>d (by omega)⟩
def K9(s:aA)(a:0<s.size):List.isPrefixOf [9] s.data.toList=(s[0]==9):=by rw[yg s a];simp[List.isPrefixOf,BEq.comm]
def Qo(a:aj)(h:List.isPrefixOf [9] a=true):bD a=(oM a,0):=by unfold bD;rw[h];rfl
def sX(a:aj):∃t:aA,t=⟨a.toArray⟩/\t.data.toList=a/\t.size=a.length:=⟨_,rfl,by simp,ea a⟩
def uc(t:aA):t.toList.isEmpty=t.data.toList.isEmpty:=by rw[Zx]
def NA(n:Nat)(s:aA)(w:ay)(o:0<s.size)(p:s[0]=9):
 Calls prog 150 #[ι n,.string s] w λe l=>∃v,e=.returned v/\iq n (bD s.data.toList) v/\μ w l:=by
 have j:=aC (Qo s.data.toList (by rw[K9 s o,p];rfl));obtain⟨b,d,f,-⟩:=sX (gj s.data.toList);have h:=aC d;have i:=aC f;clear d f;go_in;go_wp2_with fail
 refine(Ed).mono ?_;rintro e q⟨rfl,rfl⟩;rw[<-h.u];cases c:b.toList.isEmpty with
 |true=>
  go_wp2_with fail
  have a:bD s.data.toList=(Ln.zero,0):=by rw[j.u];unfold oM;rw[<-i.u,<-uc,c];rfl
  refine Yw (v:=.agg #[ι n,.int .u8 0,ε,.string b]) (by simp[results,results150,go_sem]) rfl ⟨_,rfl,iq.of ?_ ?_,(ak w _).alloc (by simp) _⟩
  ·rw[a];rfl
  intro _;rw[a];exact⟨rfl,ij (yE c)⟩
 |false=>
  go_wp2_with fail
  have a:bD s.data.toList=(⟨0,1,[],gj s.data.toList⟩,0):=by rw[j.u];unfold oM;rw[<-i.u,<-uc,c];rfl
  refine Yw (v:=.agg #[ι n,.int .u8 99,ε,.string b]) (by simp[results,results150,go_sem]) rfl ⟨_,rfl,iq.of ?_ ?_,(ak w _).alloc (by simp) _⟩
  ·rw[a];rfl
  intro _;rw[a];exact⟨rfl,h⟩
def O3(b a:aj)(h:List.isPrefixOf [9] b=false)(c:a=Mk.cut (Mk.bo 35 b)):
 bD b=if a.isEmpty then(Ln.zero,0) else if jf a then lU (Mk.cut (a.drop 7)) else gG a:=by unfold bD;rw[h,c];rfl
def oR(s t:aA)(k:Nat):Prop:=(t=s/\k<=s.size/\(s.data.toList.take k).all (λx=> !(x==35))=true)\/(k=t.size+1/\t.size<s.size/\t.data.toList=Mk.bo 35 s.data.toList)
def oR.done(s:oR h w k)(e:¬k<w.size):w=⟨(Mk.bo 35 h.data.toList).toArray⟩:=by
 have:=YJ h;obtain⟨rfl,c,a⟩|⟨c,a,b⟩:=s
 ·refine ij ?_;rw[YF (by omega)]at a;exact(MG a).symm
 exact ij b
def oR.go(s:oR h w k)(b:k<w.size)(d:¬w[k]=35):oR h w (k+1):=by
 have:=YJ h;obtain⟨rfl,c,a⟩|⟨c,a,f⟩:=s
 ·refine .inl ⟨rfl,by omega,?_⟩;rw[sN w k b,acA,a];simpa using d
 omega
def oR.cut(s:oR h w k)(f:k<w.size)(c:w[k]=35):oR h (w.extract 0 k) (k+1):=by
 have:=YJ h;obtain⟨rfl,b,a⟩|⟨b,a,e⟩:=s
 ·refine .inr ⟨by simp;omega,by simp;omega,?_⟩;rw[tv,n',ad4];exact(M5 _ k (by omega) a c).symm
 omega
def oR.le(s:oR h w k):w.size<=h.size/\k<=w.size+1:=by
 obtain⟨rfl,b,a⟩|⟨b,a,c⟩:=s
 ·omega
 omega
def N'(n:Nat)(w:ay):
 Calls prog 150 #[ι n,ε] w λe a=>∃v,e=.returned v/\iq n (Ln.zero,0) v/\μ w a:=by
 go_in;go_wp2_with fail
 go_loop [1,6] (λv b=>v=ε/\b=ι 0) (λ_ _=>0)
 case atStart=>exact⟨rfl,rfl⟩
 obtain⟨rfl,rfl⟩:=hrel;go_wp2_with fail
 refine(mC ⟨#[]⟩ _ (by decide)).mono ?_;rintro e c⟨rfl,rfl⟩;rw[show (⟨(Mk.cut (⟨#[]⟩:aA).data.toList).toArray⟩:aA)=⟨#[]⟩ from rfl];go_wp2_with fail
 refine Yw (v:=.agg #[ι n,.int .u8 0,ε,ε]) (by simp[results,results150,go_sem]) rfl ⟨_,rfl,iq.of ?_ ?_,(ak w _).alloc (by simp) _⟩
 ·rfl
 exact λ_=>⟨rfl,rfl⟩
end
namespace Mk
def rl:Nat->Nat->Bs->Bool->Bool->Bs->List (Nat×Bs)
 |first,_,s,start,on,[]=>[(first,if ew s&& !(on&&start) then gR s.dropLast else s)]
 |first,n,s,start,on,c::a=>
  if c==10 then
   (if ew s&& !(on&&start) then rl first (n+1) (s.dropLast++[32]) true true a else(first,s)::rl (n+1) (n+1) [] true false a)
  else if on&&start&&dV c then rl first n s start on a
  else rl first n (s++[c]) false on a
def ML{c:Bs}(h:c≠[]):ew (a++c)=ew c:=by
 unfold ew;rw[acj];cases b:c.getLast? with
 |none=>exact absurd (abx.1 b) h
 |some x=>rfl
def Oy{c:Bs}(h:ew a=false):gR (a++c)=a++gR c:=by
 unfold gR;rw[adX,afz];split
 ·rename_i f;have j:c.reverse.dropWhile (·==92)=[]:=by simpa using f
  rw[j];cases b:a.reverse with
  |nil=>simp at b;simp[b]
  |cons x e=>
   have d:a=e.reverse++[x]:=by have:=Yg List.reverse b;simpa using this
   have i:(x==92)=false:=by rw[d]at h;unfold ew at h;simpa using h
   rw[ZT,i];simp[d]
 simp
def Ai(c:Bs)(h:ew c=true):gR c.dropLast=gR c:=by
 unfold ew at h;have a:c.getLast?=some 92:=by simpa using h
 obtain⟨d,rfl⟩:∃d,c=d++[92]:=by
  have b:c≠[]:=by intro e;rw[e]at a;simp at a
  refine⟨c.dropLast,?_⟩;have:=ZA b;rw[abR b]at a;rw[YW a]at this;exact this.symm
 simp[gR]
def GR(c:Bs)(h:ew c=false):gR c=c:=Bv _ (λx a=>by unfold ew at h;rw[a]at h;simpa using h)
structure B3(aE cur s:Bs)(start on:Bool):Prop where
 cU:s=aE++cur
 nE:start=true->cur=[]
 gT:start=false->cur≠[]
 WW:on=false->aE=[]
 blank:ew aE=false
def B3.Ld(h:B3 b a s C D):(ew s&& !(D&&C))=ew a:=by
 rw[h.cU];cases C with
 |true=>rw[h.nE rfl,ZR];rw[h.blank];rfl
 |false=>rw[ML (h.gT rfl)];simp
def Mc:ew (a++[32])=false:=by simp[ew]
def J8(a:Bs):jc (10::a)=[]::jc a:=rfl
def Fp(c:UInt8)(b q:Bs)(a:List Bs)(d:(c==10)=false)(h:jc b=q::a):jc (c::b)=(c::q)::a:=by simp[jc,d,h]
theorem Bh:∀a:Bs,∃q b,jc a=q::b
 |[]=>⟨_,_,rfl⟩
 |c::a=>by
  have⟨q,b,h⟩:=Bh a;cases d:c==10 with
  |true=>
   have:c=10:=by simpa using d
   subst this;exact⟨_,_,J8 a⟩
  |false=>exact⟨_,_,Fp c a q b d h⟩
theorem uQ:∀(j:Bs) (first n:Nat) (i a s:Bs) (start on:Bool) (q:Bs) (l:List Bs) (o f:Nat),jc j=q::l->B3 i a s start on->n+1=first+o->l.length<=f->
 rl first n s start on j=(first,(f_ i o (if on&&start then gj q else a++q) l).1)::me f (first+(f_ i o (if on&&start then gj q else a++q) l).2.1) (f_ i o (if on&&start then gj q else a++q) l).2.2
 |[],first,n,i,a,s,start,on,q,l,o,f,v,b,y,x=>by
  obtain⟨rfl,rfl⟩:[]=q/\[]=l:=by simpa [jc]using v
  have C:(if on&&start then gj [] else a++[])=a:=by
   cases start with
   |true=>rw[b.nE rfl];cases on<;>rfl
   |false=>simp
  rw[C,rl,b.Ld,f_];have F:∀f n,me f n []=[]:=by intro f n;cases f<;>rfl
  rw[F];cases d:ew a with
  |true=>
   have A:a≠[]:=by intro z;rw[z]at d;cases d
   rw[Yd rfl,b.cU,adD A,Oy b.blank,Ai _ d]
  |false=>rw[Yb (by decide),b.cU];have:gR a=a:=Bv _ (λc w=>by unfold ew at d;rw[w]at d;simpa using d);rw[this]
 |c::j,first,n,i,a,s,start,on,q,l,o,f,v,b,y,x=>by
  have⟨r,p,u⟩:=Bh j;cases w:c==10 with
  |true=>
   obtain rfl:c=10:=by simpa using w
   rw[J8,u]at v;obtain⟨rfl,rfl⟩:[]=q/\r ::p =l:=by simpa using v
   have C:(if on&&start then gj [] else a++[])=a:=by
    cases start with
    |true=>rw[b.nE rfl];cases on<;>rfl
    |false=>simp
   rw[C,rl,Yd w,b.Ld,f_];simp only[Ya]at x;cases d:ew a with
   |true=>
    have A:a≠[]:=by intro z;rw[z]at d;cases d
    rw[Yd rfl,Yd rfl,b.cU,adD A];have e:=uQ j first (n+1) (i++a.dropLast++[32]) [] (i++a.dropLast++[32]) true true r p (o+1) f u
     ⟨(by simp),λ_=>rfl,(λh=>by cases h),(λh=>by cases h),Mc⟩ (by omega) (by omega)
    rw[e];rfl
   |false=>rw[Yb (by decide),Yb (by decide),b.cU];obtain⟨B,rfl⟩:∃B,f=B +1:=⟨f-1,by omega⟩;have e:=uQ j (n+1) (n+1) [] [] [] true false r p 1 B u ⟨rfl,λ_=>rfl,(λh=>by cases h),λ_=>rfl,rfl⟩ (by omega) (by omega);rw[e];simp only[me,qs,Y2];rw[y];rfl
  |false=>
   rw[Fp c j r p w u]at v;obtain⟨rfl,rfl⟩:c::r =q/\p =l:=by simpa using v
   rw[rl,w];simp only[YN,Z4];cases D:on&&start with
   |true=>
    obtain⟨rfl,rfl⟩:on=true/\start=true:=by simpa using D
    have E:=b.nE rfl;subst E;cases d:dV c with
    |true=>have e:=uQ j first n i [] s true true r p o f u b y x;simp only[Bool.and_self,Z8,sM,d]at e⊢;exact e
    |false=>have e:=uQ j first n i [c] (s++[c]) false true r p o f u ⟨(by rw[b.cU];simp),(λh=>by cases h),(λ_=>by simp),(λh=>by cases h),b.blank⟩ y x;simp only[aek,Z8,sM,d]at e⊢;exact e
   |false=>have e:=uQ j first n i (a++[c]) (s++[c]) false on r p o f u ⟨(by rw[b.cU];simp),(λh=>by cases h),(λ_=>by simp),b.WW,b.blank⟩ y x;simp only[aek,qs,YB,H3]at e⊢;exact e
def gw(t:Bs)(k first n:Nat)(s:Bs)(b c:Bool)(a:List (Nat×Bs)):Prop:=(k<=t.length/\dF t=a++rl first n s b c (t.drop k))\/(k=t.length+1/\dF t=a)
def V5:rl 1 1 [] true false t=dF t:=by have⟨q,a,h⟩:=Bh t;have b:=uQ t 1 1 [] [] [] true false q a 1 a.length h ⟨rfl,λ_=>rfl,(λh=>by cases h),λ_=>rfl,rfl⟩ rfl ax;rw[b];unfold dF;rw[h];simp only[qs,Y2,Ya,me];rfl
def gw.start(t:Bs):gw t 0 1 1 [] true false []:=.inl ⟨Yh _,by rw[n',V5];rfl⟩
section
variable {first:Nat}{start on:Bool}
def gw.eq(h:gw t k first n s start on outs)(a:k<=t.length):dF t=outs++rl first n s start on (t.drop k):=by
 obtain⟨_,h⟩|⟨h,_⟩:=h
 ·exact h
 omega
def gw.done(h:gw t k first n s start on outs)(a:¬k<=t.length):dF t=outs:=by
 obtain⟨h,_⟩|⟨_,h⟩:=h
 ·omega
 exact h
def gw.skip(h:gw t k first n s start on outs)(a:k<t.length)(b:(t[k]==10)=false)(c:(on&&start&&dV t[k])=true):gw t (k+1) first n s start on outs:=by refine .inl ⟨a,?_⟩;rw[h.eq (by omega),Yu a,rl,b,c];rfl
def gw.xz(h:gw t k first n s start on outs)(a:k<t.length)(b:(t[k]==10)=false)(c:(on&&start&&dV t[k])=false):gw t (k+1) first n (s++[t[k]]) false on outs:=by refine .inl ⟨a,?_⟩;rw[h.eq (by omega),Yu a,rl,b,c];rfl
def gw.mq(h:gw t k first n s start on outs)(a:k<t.length)(b:(t[k]==10)=true)(c:(ew s&& !(on&&start))=true):gw t (k+1) first (n+1) (s.dropLast++[32]) true true outs:=by refine .inl ⟨a,?_⟩;rw[h.eq (by omega),Yu a,rl,b,c];rfl
def gw.cC(h:gw t k first n s start on outs)(a:k<t.length)(b:(t[k]==10)=true)(c:(ew s&& !(on&&start))=false):gw t (k+1) (n+1) (n+1) [] true false (outs++[(first,s)]):=by refine .inl ⟨a,?_⟩;rw[h.eq (by omega),Yu a,rl,b,c,YB];rfl
def gw.dN(h:gw t k first n s start on outs)(b:k=t.length)(a:(ew s&& !(on&&start))=false):gw t (k+1) (n+1) (n+1) [] true false (outs++[(first,s)]):=by refine .inr ⟨by omega,?_⟩;rw[h.eq (by omega),D0.2 (by omega),rl,a];rfl
def gw.R7(h:gw t k first n s start on outs)(b:k=t.length)(a:(ew s&& !(on&&start))=true):gw t (k+1) (n+1) (n+1) [] true false (outs++[(first,gR s.dropLast)]):=by refine .inr ⟨by omega,?_⟩;rw[h.eq (by omega),D0.2 (by omega),rl,a];rfl
end
end Mk
section
open RowKit
def jZ(c:UInt8):az:=.int .u8 c.toNat
def Tryz.Jn:(Tryz.prog.info? 5).map (λa=>(a.zero,a.size,a.bytes))=some (some (.int .u8 0),1,1):=by kernel_rfl
def Tryz.PN:(Tryz.prog.info? 218).map (λa=>(a.zero,a.size,a.bytes))=some (some (.agg #[ι 0,.int .u8 0,ε,ε]),4,48):=by kernel_rfl
def dX(w:ay)(B:Nat)(v:az)(a:aj):Prop:=w.ownsRow B 5 1 v a.length (a.map jZ)
def dX.nil(w:ay)(B:Nat):dX w B (ς) []:=YG _ _ _ _
def dX.shape(h:dX i d p a):
 (p=ς/\a=[])\/∃g cap,p=ξ g a.length cap/\a.length<=cap/\cap<=maxLen:=by
 obtain⟨b,c⟩|⟨g,cap,f,b,c,w,B,e,j,l⟩:=h.2
 ·exact .inl ⟨b,Y4.1 c⟩
 exact .inr ⟨g,cap,b,B,e⟩
def dX.cell{w:ay}{B g d:Nat}(h:dX w B (ξ g a.length d) a)(b:Nat)(c:b<a.length):
 w.cell? ⟨g,b,none⟩=some (.int .u8 (a[b].toNat:Int)):=by rw[World.ownsRow.cellAt h b (by omega)];simp[c,jZ]
def dX.drop(h:dX i d (ξ k a.length n) a)(o:0<a.length):
 dX i d (ξ k (a.length-1) n) a.dropLast:=by
 obtain⟨b,c⟩|⟨q,l,g,b,c,e,p,B,f,j⟩:=h.2
 ·omega
 simp only[acT,H9,afY,rB,Zw]at b;obtain⟨rfl,rfl⟩:=b;refine⟨by simp,.inr ⟨k,n,g,by simp,c,e,by simp;omega,B,f,?_⟩⟩;rw[afM,List.map_dropLast,afB,Yk,<-j,acX];congr 1;omega
def dX.conv(h:dX i d p a):(convert 126 9 p).run prog i=.ok (σ a) i:=by
 obtain⟨rfl,rfl⟩|⟨g,j,rfl,f,e⟩:=h.shape
 ·exact Lib.run_convert_nil_bytes i _ _ 5 0 YI Zv Yj
 refine acW i _ _ 5 _ j a YI Zv Yj ?_;intro b B;have:=h.cell b B;by_cases c:b=0
 ·subst c;simpa [Addr.add]using this
 simpa [Addr.add,c]using this
def tD(x:Nat×aj)(c:f'):Prop:=∃L a:aA,c=[ι x.1,.int .u8 (rk (bD x.2)),.string L,.string a]/\(rk (bD x.2)≠120->L=⟨(bD x.2).1.left.toArray⟩/\a=⟨(bD x.2).1.right.toArray⟩)
def pQ:List (Nat×aj)->f'->Prop
 |[],c=>c=[]
 |x::d,c=>∃a b,c=a++b/\tD x a/\pQ d b
def tD.length(h:tD G o):o.length=4:=by obtain⟨L,a,rfl,-⟩:=h;rfl
theorem pQ.gC:∀{f:List (Nat×aj)} {c:f'} {x:Nat×aj} {d:f'},pQ f c->tD x d->pQ (f++[x]) (c++d)
 |[],c,x,d,h,e=>by subst h;exact⟨d,[],by simp,e,rfl⟩
 |y::l,c,x,d,h,e=>by obtain⟨a,b,rfl,j,i⟩:=h;exact⟨a,b++d,by simp,j,pQ.gC i e⟩
theorem pQ.at:∀{j:List (Nat×aj)} {c:f'},pQ j c->∀(k:Nat) (x:Nat×aj),j[k]?=some x->∃a,tD x a/\∀d,d<4->c[k*4+d]?=a[d]?
 |[],c,h,k,x,e=>by simp at e
 |y::o,c,h,0,x,e=>by
  obtain⟨a,b,rfl,f,i⟩:=h;obtain rfl:y=x:=by simpa using e
  refine⟨a,f,λd l=>?_⟩;rw[Zh (by rw[f.length];omega)];congr 1;omega
 |y::o,c,h,k+1,x,e=>by obtain⟨a,b,rfl,f,i⟩:=h;have⟨q,p,r⟩:=pQ.at i k x (by simpa using e);refine⟨q,p,λd l=>?_⟩;rw[YH (by rw[f.length];omega),f.length,<-r d l];congr 1;omega
def jl(w:ay)(B:Nat)(v:az)(a:List (Nat×aj)):Prop:=∃c,pQ a c/\w.ownsRow B 218 4 v a.length c
def jl.nil(w:ay)(B:Nat):jl w B (ς) []:=⟨[],rfl,YG _ _ _ _⟩
variable {x:f'}
def We(u:i.ownsRow d k xb p z o)(f:i.ownsRow d n er vn A x)(b:k≠n):p.ownBlock=none\/p.ownBlock≠vn.ownBlock:=by
 obtain⟨rfl,_⟩|⟨g,a,r,rfl,_,l,_⟩:=u.2
 ·exact .inl rfl
 right;obtain⟨rfl,_⟩|⟨j,q,y,rfl,_,c,_⟩:=f.2
 ·simp[Value.ownBlock]
 simp only[Value.ownBlock];intro h;have:g=j:=by simpa using h
 subst this;rw[l]at c;simp at c;exact b c.2
def pF(h:f.ownsRow d k n p xb o)(b:μ f i):i.ownsRow d k n p xb o:=by
 refine⟨h.1,?_⟩;obtain c|⟨g,e,a,c,l,j,m⟩:=h.2
 ·exact .inl c
 exact .inr ⟨g,e,a,c,l,(b.block g (X8.1 j).1).trans j,m⟩
def dX.gC(b:Obj)(c:f.heap.size=d)(l:dX W d vn a)(u:jl W d vb outs)(e:Below d f W)(h:i.ownsRow d 5 1 p (a.length+1) (a.map jZ++[jZ y]))(j:(W.alloc b).grownBy i vn.ownBlock):dX i d p (a++[y])/\jl i d vb outs/\Below d f i:=by have:=e.size;have⟨q,r,B⟩:=u;refine⟨by simpa [dX]using h,⟨q,r,(B.alloc b).kept j (We (B.alloc b) (Yz l b) (by decide))⟩,?_⟩;refine(e.alloc (by omega) b).grown j (by rw[X_];omega) ?_;intro k o;have:=(l.lt k o).1;omega
def jl.gC(a:Obj)(u:f.heap.size=d)(q:pQ outs o)(l:W.ownsRow d 218 4 vn outs.length o)(c:tD G H)(b:Below d f W)(h:i.ownsRow d 218 4 p (outs.length+1) (o++H))(e:(W.alloc a).grownBy i vn.ownBlock):jl i d p (outs++[G])/\Below d f i:=by have:=b.size;refine⟨⟨_,q.gC c,by simpa using h⟩,?_⟩;refine(b.alloc (by omega) a).grown e (by rw[X_];omega) ?_;intro k j;have:=(l.lt k j).1;omega
def zj:Prop:=∀(n:Nat) (s:aA) (w:ay),s.size<=4294967200->
 Calls prog 150 #[.int .i64 n,.string s] w λe a=>∃v,e=.returned v/\iq n (bD s.data.toList) v/\μ w a
def dX.jm(h:dX i d p a):∃b cap,p=.slice b a.length cap/\a.length<=cap/\(0<a.length->∃g,b=some ⟨g,0,none⟩):=by
 obtain⟨rfl,rfl⟩|⟨g,cap,rfl,c,B⟩:=h.shape
 ·exact⟨none,0,rfl,X0 _,λh=>by simp at h⟩
 exact⟨_,cap,rfl,c,λ_=>⟨g,rfl⟩⟩
def pJ(w:ay)(a b c d:az)(t:TypeId):∀(f:Nat) (u:az),[a,b,c,d][f]?=some u->(w.alloc (.cells #[a,b,c,d] t)).cell? ((⟨w.heap.size,0,none⟩:Addr).add f)=some u:=by
 intro f u e
 match f,e with
 |0,e=>simp at e;subst e;simp[Addr.add]
 |1,e=>simp at e;subst e;simp[Addr.add]
 |2,e=>simp at e;subst e;simp[Addr.add]
 |3,e=>simp at e;subst e;simp[Addr.add]
def pI(a b:Int)(e q:IntKind)(L d:aA):∀u∈[Value.int e a,.int q b,.string L,.string d],u.oneCell' =true:=by intro u c;simp at c;rcases c with rfl|rfl|rfl|rfl<;>rfl
def iq.row(h:iq n (bD (⟨a.toArray⟩:aA).data.toList) p):
 ∃L b:aA,p=.agg #[ι n,.int .u8 (rk (bD a)),.string L,.string b]/\tD (n,a) [ι n,.int .u8 (rk (bD a)),.string L,.string b]:=by rw[show (⟨a.toArray⟩:aA).data.toList=a from by simp]at h;obtain⟨L,b,rfl,c⟩:=h;exact⟨L,b,rfl,L,b,rfl,c⟩
def dX.dN{m:Nat}(h:dX i d (ξ k a.length n) a)(b:a.length=m+1):
 ∃c:UInt8,ew a=(c==92)/\i.cell? ⟨k,m,none⟩=some (.int .u8 (c.toNat:Int))/\dX i d (ξ k m n) a.dropLast:=by
 refine⟨a[m]'(by omega),?_,h.cell m (by omega),?_⟩
 ·unfold ew;rw[List.getLast?_eq_getElem?,show a.length-1=m from by omega,X9 (by omega)];rfl
 have:=h.drop (by omega);rwa [b,Nat.add_sub_cancel]at this
def wW:∀u∈[jZ y],u.oneCell' =true:=by intro u a;simp at a;subst a;rfl
def xX(h:¬y=B):((y.toNat:Int)==B.toNat)=false:=by rw[Yi];intro c;apply h;rw[<-p7];exact G4 c
def yH:az->Nat
 | .slice _ n _=>n
 |_=>0
structure Wp(s:aA)(w wr:ay)(k first n:Nat)(bs:aj)(start on:Bool)(outs:List (Nat×aj))(out sv:az):Prop where
 XW:k<=s.size+1
 XZ:n<=k+1
 XY:first<=n
 ble:bs.length<=k
 XX:outs.length<=k
 row:jl wr w.heap.size out outs
 bytes:dX wr w.heap.size sv bs
 aP:μ w wr
 bp:gw s.data.toList k first n bs start on outs
def MW(P:zj)(s:aA)(w:ay)(hs:s.size<=4294967000):
 Calls prog 104 #[.string s] w λe w'=>∃v,e=.returned v/\jl w' w.heap.size v (dF s.data.toList)/\μ w w':=by
 obtain⟨i0,hi,aq,aw,av⟩:=Y1 Tryz.Jn;obtain⟨X,Z,ac,Y,aa⟩:=Y1 Tryz.PN;have HL:=aC (YJ s);go_enter func104,ntmps104;go_wp2
 go_loopw [3,4,5,6,7,8,9] (λout G fi nn st W aK wr=>∃(k first n:Nat) (a:aj) (start aS:Bool) (t:List (Nat×aj)),aK=ι k/\fi=ι first/\nn=ι n/\st=.bool start/\W=.bool aS/\
  Wp s w wr k first n a start aS t out G)
  (λ_ _ _ _ _ _ aK _=>s.size+1-(intOf aK).toNat)
 case atStart=>exact⟨0,1,1,[],true,false,[],rfl,rfl,rfl,rfl,rfl,⟨Yh _,X0 _,X0 _,X0 _,X0 _,jl.nil _ _,dX.nil _ _,X5 _ _,gw.start _⟩⟩
 obtain⟨k,first,n,a,start,W,t,rfl,rfl,rfl,rfl,rfl,hS⟩:=hrel;obtain⟨hk,hn,hf,aD,aZ,D,B,C,aR⟩:=hS;have ah:=aC aR;clear aR;have V:=C.size;by_cases I:k<s.size
 ·have an:Hid (k<s.data.toList.length):=by have:=HL.u;show k<_;omega
  have a0:((k:Int)==s.size)=false:=by rw[Yi];omega
  by_cases am:(s[k]'I)=10
  ·have HC:Hid ((s.data.toList[k]' an.u==10)=true):=by show(s[k]'I==10)=true;simpa using am
   have aW:(((s[k]'I).toNat:Int)==10)=true:=by rw[am];rfl
   clear am;obtain⟨ao,N,rfl,ag,R⟩:=B.jm;have ai:=B.conv;cases z:(ew a&& !(W&&start)) with
   |false=>
    have A:=aC (ah.u.cC an.u HC.u z);have aF:a.length<=4294967100:=by omega
    by_cases h0:a.length=0
    ·clear z B R;rw[h0]at ai ag⊢;go_wp2_with fail
     refine(P first ⟨(a).toArray⟩ wr (by rw[ea];omega)).mono ?_;rintro e o⟨v,rfl,y,l⟩;obtain⟨L,j,rfl,q⟩:=y.row;clear y;obtain⟨cs,p,r⟩:=D;have i:=pF r l;have h:=C.trans (l.mono V);have ad:=h.size;go_wp2_with (at_builtin;refine YX _ rfl (.tmp 104) (.tmp 109) 215 rfl w.heap.size 218 X (.agg #[ι 0,.int .u8 0,ε,ε]) 4 48 rX Z ac Y aa rfl (by decide) _ _ _ rfl (Yz i _) (η o.heap.size 0) 1 1 [ι first,.int .u8 (rk (bD (a))),.string L,.string j] rfl rfl (pJ o _ _ _ _ _) (pI _ _ _ _ _ _) (by unfold maxLen;omega) (by omega) (by rw[X_];omega) ?_)
     intro H w2 f b _;have x:=jl.gC _ rfl p i q h f b;clear f b i q l h r p;go_wp2_with fail
     go_roundw
     case rel=>exact⟨k+1,n+1,n+1,[],true,false,t++[(first,a)],by go_num,by go_num,by go_num,rfl,rfl,⟨by omega,by omega,by omega,by simp,by simp;omega,x.1,dX.nil _ _,x.2,A.u⟩⟩
     simp[intOf];omega
    obtain⟨m,S⟩:∃m,a.length=m+1:=⟨a.length-1,by omega⟩;obtain⟨g,rfl⟩:=R (by omega);obtain⟨c,M,aJ,O⟩:=B.dN S;rw[M]at z;rw[S]at ai ag aF aD⊢;clear B R O h0;by_cases Q:c=92
    ·have T:W=true/\start=true:=by rw[Q]at z;simpa using z
     obtain⟨rfl,rfl⟩:=T;have ax:((c.toNat:Int)==92)=true:=by rw[Q];rfl
     clear Q z M;go_wp2_with fail
     refine(P first ⟨(a).toArray⟩ wr (by rw[ea];omega)).mono ?_;rintro e o⟨v,rfl,y,l⟩;obtain⟨L,j,rfl,q⟩:=y.row;clear y;obtain⟨cs,p,r⟩:=D;have i:=pF r l;have h:=C.trans (l.mono V);have ad:=h.size;go_wp2_with (at_builtin;refine YX _ rfl (.tmp 104) (.tmp 109) 215 rfl w.heap.size 218 X (.agg #[ι 0,.int .u8 0,ε,ε]) 4 48 rX Z ac Y aa rfl (by decide) _ _ _ rfl (Yz i _) (η o.heap.size 0) 1 1 [ι first,.int .u8 (rk (bD (a))),.string L,.string j] rfl rfl (pJ o _ _ _ _ _) (pI _ _ _ _ _ _) (by unfold maxLen;omega) (by omega) (by rw[X_];omega) ?_)
     intro H w2 f b _;have x:=jl.gC _ rfl p i q h f b;clear f b i q l h r p;go_wp2_with fail
     go_roundw
     case rel=>exact⟨k+1,n+1,n+1,[],true,false,t++[(first,a)],by go_num,by go_num,by go_num,rfl,rfl,⟨by omega,by omega,by omega,by simp,by simp;omega,x.1,dX.nil _ _,x.2,A.u⟩⟩
     simp[intOf];omega
    have ax:((c.toNat:Int)==92)=false:=xX Q;clear Q z M;go_wp2_with fail
    refine(P first ⟨(a).toArray⟩ wr (by rw[ea];omega)).mono ?_;rintro e o⟨v,rfl,y,l⟩;obtain⟨L,j,rfl,q⟩:=y.row;clear y;obtain⟨cs,p,r⟩:=D;have i:=pF r l;have h:=C.trans (l.mono V);have ad:=h.size;go_wp2_with (at_builtin;refine YX _ rfl (.tmp 104) (.tmp 109) 215 rfl w.heap.size 218 X (.agg #[ι 0,.int .u8 0,ε,ε]) 4 48 rX Z ac Y aa rfl (by decide) _ _ _ rfl (Yz i _) (η o.heap.size 0) 1 1 [ι first,.int .u8 (rk (bD (a))),.string L,.string j] rfl rfl (pJ o _ _ _ _ _) (pI _ _ _ _ _ _) (by unfold maxLen;omega) (by omega) (by rw[X_];omega) ?_)
    intro H w2 f b _;have x:=jl.gC _ rfl p i q h f b;clear f b i q l h r p;go_wp2_with fail
    go_roundw
    case rel=>exact⟨k+1,n+1,n+1,[],true,false,t++[(first,a)],by go_num,by go_num,by go_num,rfl,rfl,⟨by omega,by omega,by omega,by simp,by simp;omega,x.1,dX.nil _ _,x.2,A.u⟩⟩
    simp[intOf];omega
   |true=>
    have A:=aC (ah.u.mq an.u HC.u z);have aG:a.length≠0:=by intro h0;rw[Y4.1 h0]at z;cases z
    obtain⟨m,S⟩:∃m,a.length=m+1:=⟨a.length-1,by omega⟩;obtain⟨g,rfl⟩:=R (by omega);obtain⟨c,M,aJ,O⟩:=B.dN S;rw[M]at z;rw[S]at ag aD⊢;simp only[Zn,R4]at z;obtain⟨au,T⟩:=z;have ax:((c.toNat:Int)==92)=true:=by rw[show c=92 from by simpa using au];rfl
    have E:a.dropLast.length<=k-1:=by simp;omega
    obtain⟨d,py⟩:∃d,d=a.dropLast:=⟨_,rfl⟩;rw[<-py]at E O;rw[<-py]at A;clear B R M au ai aG py;cases W with
    |false=>
     clear T;go_wp2_with fail
     go_loopw [4] (λG w'=>w' =wr/\G=ξ g m N) (λ_ _=>0)
     case atStart=>exact⟨rfl,rfl⟩
     obtain⟨rfl,rfl⟩:=hrel;go_wp2_with (at_builtin;refine YX _ rfl (.tmp 99) (.tmp 100) 126 rfl w.heap.size 5 i0 (.int .u8 0) 1 1 YI hi aq aw av rfl (by decide) _ _ _ rfl (Yz O _) (η wr.heap.size 0) 1 1 [jZ 32] rfl rfl (qq wr) (wW) (by unfold maxLen;omega) (by omega) (by rw[X_];omega) ?_)
     intro H o f b _;have j:=dX.gC _ rfl O D C f b;clear f b;go_wp2_with fail
     go_roundw
     case rel=>exact⟨k+1,first,n+1,d++[32],true,true,t,by go_num,rfl,by go_num,rfl,rfl,⟨by omega,by omega,by omega,by simp;omega,by omega,j.2.1,j.1,j.2.2,A.u⟩⟩
     simp[intOf];omega
    |true=>
     obtain rfl:start=false:=by simpa using T
     clear T;go_wp2_with fail
     go_loopw [4] (λG w'=>w' =wr/\G=ξ g m N) (λ_ _=>0)
     case atStart=>exact⟨rfl,rfl⟩
     obtain⟨rfl,rfl⟩:=hrel;go_wp2_with (at_builtin;refine YX _ rfl (.tmp 99) (.tmp 100) 126 rfl w.heap.size 5 i0 (.int .u8 0) 1 1 YI hi aq aw av rfl (by decide) _ _ _ rfl (Yz O _) (η wr.heap.size 0) 1 1 [jZ 32] rfl rfl (qq wr) (wW) (by unfold maxLen;omega) (by omega) (by rw[X_];omega) ?_)
     intro H o f b _;have j:=dX.gC _ rfl O D C f b;clear f b;go_wp2_with fail
     go_roundw
     case rel=>exact⟨k+1,first,n+1,d++[32],true,true,t,by go_num,rfl,by go_num,rfl,rfl,⟨by omega,by omega,by omega,by simp;omega,by omega,j.2.1,j.1,j.2.2,A.u⟩⟩
     simp[intOf];omega
  have HC:Hid ((s.data.toList[k]' an.u==10)=false):=by show(s[k]'I==10)=false;simpa using am
  have aW:(((s[k]'I).toNat:Int)==10)=false:=by rw[Yi];intro h2;apply am;rw[<-p7];exact G4 h2
  clear am;cases af:(W&&start&&Mk.dV (s[k]'I)) with
  |true=>
   have A:=aC (ah.u.skip an.u HC.u af);simp only[Zn]at af;obtain⟨⟨rfl,rfl⟩,aQ⟩:=af;go_wp2_with fail
   refine(np).mono ?_;rintro e o⟨rfl,rfl⟩;rw[aQ];go_wp2_with fail
   go_roundw
   case rel=>exact⟨k+1,first,n,a,true,true,t,by go_num,rfl,rfl,rfl,rfl,⟨by omega,by omega,hf,by omega,by omega,D,B,C,A.u⟩⟩
   simp[intOf];omega
  |false=>
   have A:=aC (ah.u.xz an.u HC.u af);cases W with
   |false=>
    clear af;go_wp2_with fail
    refine(np).mono ?_;rintro e o⟨rfl,rfl⟩;go_wp2_with (at_builtin;refine YX _ rfl (.tmp 42) (.tmp 46) 126 rfl w.heap.size 5 i0 (.int .u8 0) 1 1 YI hi aq aw av rfl (by decide) _ _ _ rfl (Yz B _) (η wr.heap.size 0) 1 1 [jZ (s[k]'I)] rfl rfl (qq wr) (wW) (by unfold maxLen;omega) (by omega) (by rw[X_];omega) ?_)
    intro H o f b _;have j:=dX.gC _ rfl B D C f b;clear f b;go_wp2_with fail
    go_roundw
    case rel=>exact⟨k+1,first,n,a++[s[k]'I],false,false,t,by go_num,rfl,rfl,rfl,rfl,⟨by omega,by omega,hf,by simp;omega,by omega,j.2.1,j.1,j.2.2,A.u⟩⟩
    simp[intOf];omega
   |true=>
    cases start with
    |false=>
     clear af;go_wp2_with fail
     refine(np).mono ?_;rintro e o⟨rfl,rfl⟩;go_wp2_with (at_builtin;refine YX _ rfl (.tmp 42) (.tmp 46) 126 rfl w.heap.size 5 i0 (.int .u8 0) 1 1 YI hi aq aw av rfl (by decide) _ _ _ rfl (Yz B _) (η wr.heap.size 0) 1 1 [jZ (s[k]'I)] rfl rfl (qq wr) (wW) (by unfold maxLen;omega) (by omega) (by rw[X_];omega) ?_)
     intro H o f b _;have j:=dX.gC _ rfl B D C f b;clear f b;go_wp2_with fail
     go_roundw
     case rel=>exact⟨k+1,first,n,a++[s[k]'I],false,true,t,by go_num,rfl,rfl,rfl,rfl,⟨by omega,by omega,hf,by simp;omega,by omega,j.2.1,j.1,j.2.2,A.u⟩⟩
     simp[intOf];omega
    |true=>
     have aQ:Mk.dV (s[k]'I)=false:=by simpa using af
     clear af;go_wp2_with fail
     refine(np).mono ?_;rintro e o⟨rfl,rfl⟩;rw[aQ];go_wp2_with (at_builtin;refine YX _ rfl (.tmp 42) (.tmp 46) 126 rfl w.heap.size 5 i0 (.int .u8 0) 1 1 YI hi aq aw av rfl (by decide) _ _ _ rfl (Yz B _) (η wr.heap.size 0) 1 1 [jZ (s[k]'I)] rfl rfl (qq wr) (wW) (by unfold maxLen;omega) (by omega) (by rw[X_];omega) ?_)
     intro H o f b _;have j:=dX.gC _ rfl B D C f b;clear f b;go_wp2_with fail
     go_roundw
     case rel=>exact⟨k+1,first,n,a++[s[k]'I],false,true,t,by go_num,rfl,rfl,rfl,rfl,⟨by omega,by omega,hf,by simp;omega,by omega,j.2.1,j.1,j.2.2,A.u⟩⟩
     simp[intOf];omega
 by_cases aT:k=s.size
 ·subst aT;have aY:((s.size:Int)==s.size)=true:=by simp
  obtain⟨ao,N,rfl,ag,R⟩:=B.jm;have ai:=B.conv;cases z:(ew a&& !(W&&start)) with
  |false=>
   have A:=aC (ah.u.dN HL.u z);have aF:a.length<=4294967100:=by omega
   by_cases h0:a.length=0
   ·clear z B R;rw[h0]at ai ag⊢;go_wp2_with fail
    refine(P first ⟨(a).toArray⟩ wr (by rw[ea];omega)).mono ?_;rintro e o⟨v,rfl,y,l⟩;obtain⟨L,j,rfl,q⟩:=y.row;clear y;obtain⟨cs,p,r⟩:=D;have i:=pF r l;have h:=C.trans (l.mono V);have ad:=h.size;go_wp2_with (at_builtin;refine YX _ rfl (.tmp 104) (.tmp 109) 215 rfl w.heap.size 218 X (.agg #[ι 0,.int .u8 0,ε,ε]) 4 48 rX Z ac Y aa rfl (by decide) _ _ _ rfl (Yz i _) (η o.heap.size 0) 1 1 [ι first,.int .u8 (rk (bD (a))),.string L,.string j] rfl rfl (pJ o _ _ _ _ _) (pI _ _ _ _ _ _) (by unfold maxLen;omega) (by omega) (by rw[X_];omega) ?_)
    intro H w2 f b _;have x:=jl.gC _ rfl p i q h f b;clear f b i q l h r p;go_wp2_with fail
    go_roundw
    case rel=>exact⟨s.size+1,n+1,n+1,[],true,false,t++[(first,a)],by go_num,by go_num,by go_num,rfl,rfl,⟨by omega,by omega,by omega,by simp,by simp;omega,x.1,dX.nil _ _,x.2,A.u⟩⟩
    simp[intOf]
   obtain⟨m,S⟩:∃m,a.length=m+1:=⟨a.length-1,by omega⟩;obtain⟨g,rfl⟩:=R (by omega);obtain⟨c,M,aJ,O⟩:=B.dN S;rw[M]at z;rw[S]at ai ag aF aD⊢;clear B R O h0;by_cases Q:c=92
   ·have T:W=true/\start=true:=by rw[Q]at z;simpa using z
    obtain⟨rfl,rfl⟩:=T;have ax:((c.toNat:Int)==92)=true:=by rw[Q];rfl
    clear Q z M;go_wp2_with fail
    refine(P first ⟨(a).toArray⟩ wr (by rw[ea];omega)).mono ?_;rintro e o⟨v,rfl,y,l⟩;obtain⟨L,j,rfl,q⟩:=y.row;clear y;obtain⟨cs,p,r⟩:=D;have i:=pF r l;have h:=C.trans (l.mono V);have ad:=h.size;go_wp2_with (at_builtin;refine YX _ rfl (.tmp 104) (.tmp 109) 215 rfl w.heap.size 218 X (.agg #[ι 0,.int .u8 0,ε,ε]) 4 48 rX Z ac Y aa rfl (by decide) _ _ _ rfl (Yz i _) (η o.heap.size 0) 1 1 [ι first,.int .u8 (rk (bD (a))),.string L,.string j] rfl rfl (pJ o _ _ _ _ _) (pI _ _ _ _ _ _) (by unfold maxLen;omega) (by omega) (by rw[X_];omega) ?_)
    intro H w2 f b _;have x:=jl.gC _ rfl p i q h f b;clear f b i q l h r p;go_wp2_with fail
    go_roundw
    case rel=>exact⟨s.size+1,n+1,n+1,[],true,false,t++[(first,a)],by go_num,by go_num,by go_num,rfl,rfl,⟨by omega,by omega,by omega,by simp,by simp;omega,x.1,dX.nil _ _,x.2,A.u⟩⟩
    simp[intOf]
   have ax:((c.toNat:Int)==92)=false:=xX Q;clear Q z M;go_wp2_with fail
   refine(P first ⟨(a).toArray⟩ wr (by rw[ea];omega)).mono ?_;rintro e o⟨v,rfl,y,l⟩;obtain⟨L,j,rfl,q⟩:=y.row;clear y;obtain⟨cs,p,r⟩:=D;have i:=pF r l;have h:=C.trans (l.mono V);have ad:=h.size;go_wp2_with (at_builtin;refine YX _ rfl (.tmp 104) (.tmp 109) 215 rfl w.heap.size 218 X (.agg #[ι 0,.int .u8 0,ε,ε]) 4 48 rX Z ac Y aa rfl (by decide) _ _ _ rfl (Yz i _) (η o.heap.size 0) 1 1 [ι first,.int .u8 (rk (bD (a))),.string L,.string j] rfl rfl (pJ o _ _ _ _ _) (pI _ _ _ _ _ _) (by unfold maxLen;omega) (by omega) (by rw[X_];omega) ?_)
   intro H w2 f b _;have x:=jl.gC _ rfl p i q h f b;clear f b i q l h r p;go_wp2_with fail
   go_roundw
   case rel=>exact⟨s.size+1,n+1,n+1,[],true,false,t++[(first,a)],by go_num,by go_num,by go_num,rfl,rfl,⟨by omega,by omega,by omega,by simp,by simp;omega,x.1,dX.nil _ _,x.2,A.u⟩⟩
   simp[intOf]
  |true=>
   have aB:=aC (ah.u.R7 HL.u z);have aG:a.length≠0:=by intro h0;rw[Y4.1 h0]at z;cases z
   obtain⟨m,S⟩:∃m,a.length=m+1:=⟨a.length-1,by omega⟩;obtain⟨g,rfl⟩:=R (by omega);obtain⟨c,M,aJ,O⟩:=B.dN S;rw[M]at z;rw[S]at ag aD⊢;simp only[Zn,R4]at z;obtain⟨au,T⟩:=z;have ax:((c.toNat:Int)==92)=true:=by rw[show c=92 from by simpa using au];rfl
   clear B R M au ai aG;cases W with
   |false=>
    clear T;go_wp2_with fail
    go_loopw [4] (λG w'=>w' =wr/\∃(F:Nat) (d:aj),G=ξ g F N/\d.length=F/\F <=N/\F +1<=s.size/\dX wr w.heap.size G d/\gR d=gR a.dropLast) (λG _=>yH G)
    case atStart=>exact⟨rfl,m,a.dropLast,rfl,by simp;omega,by omega,by omega,O,rfl⟩
    obtain⟨aM,F,d,rfl,E,aX,aU,ak,ar⟩:=hrel;subst aM;have al:=aC ar;clear ar;have aI:=ak.conv;by_cases aO:F =0
    ·subst aO;have A:Hid (gw s.data.toList (s.size+1) (n+1) (n+1) [] true false (t++[(first,d)])):=by have U:=aB.u;rw[<-al.u,Y4.1 E]at U;rw[Y4.1 E];exact U
     have aP:d.length<=4294967100:=by omega
     clear E;go_wp2_with fail
     refine(P first ⟨(d).toArray⟩ wr (by rw[ea];omega)).mono ?_;rintro e o⟨v,rfl,y,l⟩;obtain⟨L,j,rfl,q⟩:=y.row;clear y;obtain⟨cs,p,r⟩:=D;have i:=pF r l;have h:=C.trans (l.mono V);have ad:=h.size;go_wp2_with (at_builtin;refine YX _ rfl (.tmp 104) (.tmp 109) 215 rfl w.heap.size 218 X (.agg #[ι 0,.int .u8 0,ε,ε]) 4 48 rX Z ac Y aa rfl (by decide) _ _ _ rfl (Yz i _) (η o.heap.size 0) 1 1 [ι first,.int .u8 (rk (bD (d))),.string L,.string j] rfl rfl (pJ o _ _ _ _ _) (pI _ _ _ _ _ _) (by unfold maxLen;omega) (by omega) (by rw[X_];omega) ?_)
     intro H w2 f b _;have x:=jl.gC _ rfl p i q h f b;clear f b i q l h r p;go_wp2_with fail
     go_roundw
     case rel=>exact⟨s.size+1,n+1,n+1,[],true,false,t++[(first,d)],by go_num,by go_num,by go_num,rfl,rfl,⟨by omega,by omega,by omega,by simp,by simp;omega,x.1,dX.nil _ _,x.2,A.u⟩⟩
     simp[intOf]
    obtain⟨K,rfl⟩:∃K,F =K+1:=⟨F -1,by omega⟩;obtain⟨c2,ae,aV,ap⟩:=dX.dN (m:=K) (by rw[E];exact ak) E;by_cases J:c2=92
    ·have aN:((c2.toNat:Int)==92)=true:=by rw[J];rfl
     have aE:Hid (gR d.dropLast=gR a.dropLast):=by show _=_;rw[Ai d (by rw[ae,J];rfl)];exact al.u
     have aL:=aC (show d.dropLast.length=K by simp;omega);have aH:K<=N:=by omega
     clear J ae aI ak E;go_wp2_with fail
     go_roundw
     case rel=>exact⟨trivial,K,d.dropLast,rfl,aL.u,aH,by omega,ap,aE.u⟩
     simp[yH]
    have aN:((c2.toNat:Int)==92)=false:=xX J;have A:Hid (gw s.data.toList (s.size+1) (n+1) (n+1) [] true false (t++[(first,d)])):=by have U:=aB.u;rw[<-al.u,GR d (by rw[ae];simpa using J)]at U;exact U
    have aP:d.length<=4294967100:=by omega
    clear J ae E ap;go_wp2_with fail
    refine(P first ⟨(d).toArray⟩ wr (by rw[ea];omega)).mono ?_;rintro e o⟨v,rfl,y,l⟩;obtain⟨L,j,rfl,q⟩:=y.row;clear y;obtain⟨cs,p,r⟩:=D;have i:=pF r l;have h:=C.trans (l.mono V);have ad:=h.size;go_wp2_with (at_builtin;refine YX _ rfl (.tmp 104) (.tmp 109) 215 rfl w.heap.size 218 X (.agg #[ι 0,.int .u8 0,ε,ε]) 4 48 rX Z ac Y aa rfl (by decide) _ _ _ rfl (Yz i _) (η o.heap.size 0) 1 1 [ι first,.int .u8 (rk (bD (d))),.string L,.string j] rfl rfl (pJ o _ _ _ _ _) (pI _ _ _ _ _ _) (by unfold maxLen;omega) (by omega) (by rw[X_];omega) ?_)
    intro H w2 f b _;have x:=jl.gC _ rfl p i q h f b;clear f b i q l h r p;go_wp2_with fail
    go_roundw
    case rel=>exact⟨s.size+1,n+1,n+1,[],true,false,t++[(first,d)],by go_num,by go_num,by go_num,rfl,rfl,⟨by omega,by omega,by omega,by simp,by simp;omega,x.1,dX.nil _ _,x.2,A.u⟩⟩
    simp[intOf]
   |true=>
    obtain rfl:start=false:=by simpa using T
    clear T;go_wp2_with fail
    go_loopw [4] (λG w'=>w' =wr/\∃(F:Nat) (d:aj),G=ξ g F N/\d.length=F/\F <=N/\F +1<=s.size/\dX wr w.heap.size G d/\gR d=gR a.dropLast) (λG _=>yH G)
    case atStart=>exact⟨rfl,m,a.dropLast,rfl,by simp;omega,by omega,by omega,O,rfl⟩
    obtain⟨aM,F,d,rfl,E,aX,aU,ak,ar⟩:=hrel;subst aM;have al:=aC ar;clear ar;have aI:=ak.conv;by_cases aO:F =0
    ·subst aO;have A:Hid (gw s.data.toList (s.size+1) (n+1) (n+1) [] true false (t++[(first,d)])):=by have U:=aB.u;rw[<-al.u,Y4.1 E]at U;rw[Y4.1 E];exact U
     have aP:d.length<=4294967100:=by omega
     clear E;go_wp2_with fail
     refine(P first ⟨(d).toArray⟩ wr (by rw[ea];omega)).mono ?_;rintro e o⟨v,rfl,y,l⟩;obtain⟨L,j,rfl,q⟩:=y.row;clear y;obtain⟨cs,p,r⟩:=D;have i:=pF r l;have h:=C.trans (l.mono V);have ad:=h.size;go_wp2_with (at_builtin;refine YX _ rfl (.tmp 104) (.tmp 109) 215 rfl w.heap.size 218 X (.agg #[ι 0,.int .u8 0,ε,ε]) 4 48 rX Z ac Y aa rfl (by decide) _ _ _ rfl (Yz i _) (η o.heap.size 0) 1 1 [ι first,.int .u8 (rk (bD (d))),.string L,.string j] rfl rfl (pJ o _ _ _ _ _) (pI _ _ _ _ _ _) (by unfold maxLen;omega) (by omega) (by rw[X_];omega) ?_)
     intro H w2 f b _;have x:=jl.gC _ rfl p i q h f b;clear f b i q l h r p;go_wp2_with fail
     go_roundw
     case rel=>exact⟨s.size+1,n+1,n+1,[],true,false,t++[(first,d)],by go_num,by go_num,by go_num,rfl,rfl,⟨by omega,by omega,by omega,by simp,by simp;omega,x.1,dX.nil _ _,x.2,A.u⟩⟩
     simp[intOf]
    obtain⟨K,rfl⟩:∃K,F =K+1:=⟨F -1,by omega⟩;obtain⟨c2,ae,aV,ap⟩:=dX.dN (m:=K) (by rw[E];exact ak) E;by_cases J:c2=92
    ·have aN:((c2.toNat:Int)==92)=true:=by rw[J];rfl
     have aE:Hid (gR d.dropLast=gR a.dropLast):=by show _=_;rw[Ai d (by rw[ae,J];rfl)];exact al.u
     have aL:=aC (show d.dropLast.length=K by simp;omega);have aH:K<=N:=by omega
     clear J ae aI ak E;go_wp2_with fail
     go_roundw
     case rel=>exact⟨trivial,K,d.dropLast,rfl,aL.u,aH,by omega,ap,aE.u⟩
     simp[yH]
    have aN:((c2.toNat:Int)==92)=false:=xX J;have A:Hid (gw s.data.toList (s.size+1) (n+1) (n+1) [] true false (t++[(first,d)])):=by have U:=aB.u;rw[<-al.u,GR d (by rw[ae];simpa using J)]at U;exact U
    have aP:d.length<=4294967100:=by omega
    clear J ae E ap;go_wp2_with fail
    refine(P first ⟨(d).toArray⟩ wr (by rw[ea];omega)).mono ?_;rintro e o⟨v,rfl,y,l⟩;obtain⟨L,j,rfl,q⟩:=y.row;clear y;obtain⟨cs,p,r⟩:=D;have i:=pF r l;have h:=C.trans (l.mono V);have ad:=h.size;go_wp2_with (at_builtin;refine YX _ rfl (.tmp 104) (.tmp 109) 215 rfl w.heap.size 218 X (.agg #[ι 0,.int .u8 0,ε,ε]) 4 48 rX Z ac Y aa rfl (by decide) _ _ _ rfl (Yz i _) (η o.heap.size 0) 1 1 [ι first,.int .u8 (rk (bD (d))),.string L,.string j] rfl rfl (pJ o _ _ _ _ _) (pI _ _ _ _ _ _) (by unfold maxLen;omega) (by omega) (by rw[X_];omega) ?_)
    intro H w2 f b _;have x:=jl.gC _ rfl p i q h f b;clear f b i q l h r p;go_wp2_with fail
    go_roundw
    case rel=>exact⟨s.size+1,n+1,n+1,[],true,false,t++[(first,d)],by go_num,by go_num,by go_num,rfl,rfl,⟨by omega,by omega,by omega,by simp,by simp;omega,x.1,dX.nil _ _,x.2,A.u⟩⟩
    simp[intOf]
 have HD:=aC (ah.u.done (by have:=HL.u;omega));go_wp2_with fail
 go_ret;exact⟨_,rfl,by rw[HD.u];exact D,C⟩
structure Sg where
 on:Bool
 jH:aj
 first:aj
 all:aj
 stem:aj
def jQ(g:Sg)(c:UInt8):jj:=if g.on=false then none else if c=64 then some g.jH else if c=60 then some g.first else if c=94 then some g.all else if c=42 then some g.stem else none
structure XM(W:ay)(xb:Nat)(vn:az)(L:js)(g:Sg)(k:Nat)(vb:az)(m:fv)(er:Nat):Prop where
 row:aF W xb 232 [vn,.bool g.on,aK g.jH,aK g.first,aK g.all,aK g.stem,ι (k:Int),vb,ι (er:Int)]
 busy:W.ownsRow (xb+1) 9 1 vb m.length (m.map aK)
 nm:∃a cap b o,vn=.slice a L.length cap/\(0<L.length->a=some ⟨b,o,none⟩)/\vH W b o L/\(0<L.length->b<xb)
structure XF(W W':ay)(xb:Nat)(vb vb':az):Prop where
 bS:Below 0 W W'
 jX:∀q,q<W.heap.size->q≠xb->some q≠vb.ownBlock->W'.heap[q]?=W.heap[q]?
 jP:vb'.ownBlock=vb.ownBlock\/∃q,vb'.ownBlock=some q/\W.heap.size<=q
section
variable {L:js}{g:Sg}
def XF.refl(W:ay)(b:Nat)(a:az):XF W W b a a:=⟨X5 _ _,λ_ _ _ _=>rfl,.inl rfl⟩
def XF.trans(h:XF W W' xb vb vb')(k:XF W' X xb vb' J):XF W X xb vb J:=by
 have:=h.bS.size;refine⟨h.bS.trans k.bS,λq c a b=>?_,?_⟩
 ·rw[k.jX q (by omega) a (λe=>?_),h.jX q c a b];obtain d|⟨p,d,f⟩:=h.jP
  ·exact b (e.trans d)
  rw[d]at e;cases e;omega
 obtain e|⟨p,d,f⟩:=k.jP
 ·rw[e];exact h.jP
 exact .inr ⟨p,d,by omega⟩
def XF.bq(a:μ W W'):XF W W' xb vb vb:=⟨a.mono (Yh _),λq b _ _=>a.block q b,.inl rfl⟩
def XF.set(j:Nat)(u:az):XF W (W.ψ xb j u) xb vb vb:=⟨(X5 _ _).setCell (p:=η xb j) (Yh _) u,λ_ _ a _=>Ys _ _ _ _ a,.inl rfl⟩
def XF.ze(h:XF W W' xb vb vb'):XF W W'.drew xb vb vb':=⟨⟨h.bS.os,h.bS.tape,h.bS.output,h.bS.size,h.bS.block⟩,h.jX,h.jP⟩
def XF.aP(h:XF W W' xb vb vb')(c:xb<=W.heap.size)(a:∀q,vb.ownBlock=some q->xb<q):Below xb W W':=⟨h.bS.os,h.bS.tape,h.bS.output,h.bS.size,λq b=>h.jX q (by omega) (by omega) (λe=>by have:=a q e.symm;omega)⟩
def XM.lt(h:XM W xb vn L g k vb m er):∀q,vb.ownBlock=some q->xb<q:=λq a=>by have:=(Yt h.busy q a).1;omega
def XM.same(h:XM W xb vn L g k vb m er)(w:W'.heap[xb]?=W.heap[xb]?)(f:∀q,vb.ownBlock=some q->W'.heap[q]?=W.heap[q]?)(j:∀q,q<xb->W'.heap[q]?=W.heap[q]?):XM W' xb vn L g k vb m er:=by
 have⟨i,l,a,n,b,o,r,x,u,e⟩:=h;refine⟨w.trans i,bI l f,a,n,b,o,r,x,λv p=>?_,e⟩;have d:∀c,W'.cell? ⟨b,c,none⟩=W.cell? ⟨b,c,none⟩:=λc=>by unfold World.cell?;rw[j b (e (by omega))]
 rw[d,d,d];exact u v p
def XM.aD(h:XM W xb vn L g k vb m er)(a:μ W W'):XM W' xb vn L g k vb m er:=h.same (a.block _ h.row.lt) (λq b=>a.block q (Yt h.busy q b).2) (λq b=>a.block q (by have:=h.row.lt;omega))
def XM.xy(h:XM W xb vn L g k vb m er)(j e:Nat)(x:(d=6/\p=ι (j:Int)/\e =er)\/(d=8/\p=ι (e:Int)/\j =k)):XM (W.ψ xb d p) xb vn L g j vb m e:=by
 have l:∀q,q≠xb->(W.ψ xb d p).heap[q]?=W.heap[q]?:=λq f=>Ys _ _ _ _ f;have A:=h.row.set d p;obtain⟨C,o,a,n,b,r,w,B,y,u⟩:=h;refine⟨?_,bI o λq f=>l q (by have:=(Yt o q f).1;omega),a,n,b,r,w,B,λz v=>?_,u⟩
 ·rcases x with⟨rfl,rfl,rfl⟩|⟨rfl,rfl,rfl⟩<;>exact A
 have i:∀c,(W.ψ xb d p).cell? ⟨b,c,none⟩=W.cell? ⟨b,c,none⟩:=λc=>by unfold World.cell?;rw[l b (by have:=u (by omega);omega)]
 rw[i,i,i];exact y z v
def XM.grown{v:az}(h:XM W xb vn L g k vb m er)(d:(W.alloc E).grownBy X vb.ownBlock)(u:X.ownsRow (xb+1) 9 1 v (m.length+1) (m.map aK++[aK b]))(C:v.ownBlock=vb.ownBlock\/v.ownBlock=some (W.alloc E).heap.size):
 aF X xb 232 [vn,.bool g.on,aK g.jH,aK g.first,aK g.all,aK g.stem,ι k,vb,ι er]/\XM (X.ψ xb 7 v) xb vn L g k v (m++[b]) er/\XF W (X.ψ xb 7 v) xb vb v/\∀q,q<W.heap.size->q≠xb->some q≠vb.ownBlock->(X.ψ xb 7 v).heap[q]?=W.heap[q]?:=by
 have B:=h.row.lt;have w:=h.lt;have y:∀q,q<W.heap.size->some q≠vb.ownBlock->X.heap[q]?=W.heap[q]?:=λq f i=>(d.block q (by rw[X_];omega) i).trans (((X5 W.heap.size W).alloc ax E).block q f);have x:∀q,q≠xb->(X.ψ xb 7 v).heap[q]?=X.heap[q]?:=λq c=>Ys _ _ _ _ c;have G:some xb≠vb.ownBlock:=λe=>by have:=w xb e.symm;omega
 have A:aF X xb 232 [vn,.bool g.on,aK g.jH,aK g.first,aK g.all,aK g.stem,ι k,vb,ι er]:=(y xb B G).trans h.row;have o:∀q,q<W.heap.size->q≠xb->some q≠vb.ownBlock->(X.ψ xb 7 v).heap[q]?=W.heap[q]?:=λq f i j=>(x q i).trans (y q f j);obtain⟨R,O,a,s,n,F,I,D,J,z⟩:=h;have K:∀q,v.ownBlock=some q->xb<q:=λq c=>by have:=(Yt u q c).1;omega
 refine⟨A,⟨A.set 7 v,?_,a,s,n,F,I,D,λM H=>?_,z⟩,⟨?_,o,?_⟩,o⟩
 ·rw[X4,Yy];exact bI u λq c=>x q (by have:=K q c;omega)
 ·have:=z (by omega);have r:∀l,(X.ψ xb 7 v).cell? ⟨n,l,none⟩=W.cell? ⟨n,l,none⟩:=λl=>by unfold World.cell?;rw[o n (by omega) (by omega) (λe=>by have:=w n e.symm;omega)]
  rw[r,r,r];exact J M H
 ·have f:Below 0 W X:=⟨d.os,d.tape,d.output,Ye (by rw[X_];omega) d.size,λq c=>by omega⟩;exact f.setCell (p:=η xb 7) (Yh _) _
 obtain e|e:=C
 ·exact .inl e
 exact .inr ⟨_,e,by rw[X_];omega⟩
def XM.XR(h:XM W xb vn L g k (ξ d (m.length+1) n) (m++[b]) er):XM (W.ψ xb 7 (ξ d m.length n)) xb vn L g k (ξ d m.length n) m er:=by
 have l:∀q,q≠xb->(W.ψ xb 7 (ξ d m.length n)).heap[q]?=W.heap[q]?:=λq i=>Ys _ _ _ _ i;have⟨B,f,a,r,s,u,y,w,z,p⟩:=h;have:=(Yt f d rfl).1;rw[X4,Yx]at f;have o:=JT f m.length (by omega);rw[Yy,abd (by simp),YF (by simp)]at o;refine⟨h.row.set 7 (ξ d m.length n),bI o λq i=>l q (by have e:d=q:=YW i;omega),a,r,s,u,y,w,λA x=>?_,p⟩;have j:∀c,(W.ψ xb 7 (ξ d m.length n)).cell? ⟨s,c,none⟩=W.cell? ⟨s,c,none⟩:=λc=>by unfold World.cell?;rw[l s (by have:=p (by omega);omega)]
 rw[j,j,j];exact z A x
end
def fE:js->fv->Nat
 |[],_=>0
 |x::a,m=>(if x.name∈m\/x.jF=true then 0 else x.aU.length)+fE a m
theorem AU:∀(L:js) (m:fv) (n:aj),fE L (m++[n])<=fE L m
 |[],_,_=>X0 _
 |z::b,m,n=>by
  have:=AU b m n;unfold fE;by_cases a:z.name∈m\/z.jF=true
  ·rw[Yd (a.imp (YK _) id),Yd a];omega
  rw[Yb a];split<;>omega
theorem IF{n:aj}(d:n∉m):∀{L:js} {x:Rn},x∈L->x.name=n->x.jF=false->x.aU.length+fE L (m++[n])<=fE L m
 |y::e,x,h,a,c=>by
  have:=AU e m n;unfold fE;obtain rfl|f:=YD.1 h
  ·rw[Yd (.inl (by rw[a];exact YQ _ (Yc.2 rfl))),Yb (by rw[a,c];simpa using d)];omega
  have:=IF d f a c;by_cases b:y.name∈m\/y.jF=true
  ·rw[Yd (b.imp (YK _) id),Yd b];omega
  rw[Yb b];split<;>omega
end
section
open RowKit Maps Go.Sort Shelf
def keys135_ren:Go.Shelf.Ren:=⟨fun|7=>135|10=>180|n=>n,fun|23=>177|26=>9|3=>65|28=>260|0=>0|27=>259|33=>224|4=>4|n=>n,fun|n=>n⟩
def keys135:Go.Proofs.SlLaysZ.n7 prog keys135_ren:=by constructor<;>first|kernel_rfl|(intro;kernel_rfl)|exact⟨_,by decide,rfl⟩
def sorted134_ren:Go.Shelf.Ren:=⟨fun|6=>134|8=>178|9=>179|11=>218|13=>220|12=>219|23=>262|24=>263|14=>253|15=>254|16=>255|17=>256|18=>257|19=>258|20=>259|21=>260|22=>261|25=>280|26=>281|27=>282|28=>283|29=>284|30=>285|31=>292|n=>n,fun|26=>9|28=>260|24=>30|0=>0|3=>3|37=>335|48=>365|50=>367|4=>4|40=>359|39=>358|45=>263|5=>5|9=>9|51=>374|55=>378|57=>387|58=>298|33=>224|n=>n,fun|n=>n⟩
def sorted134:Go.Proofs.SlLaysZ.n6 prog sorted134_ren:=by constructor<;>first|kernel_rfl|(intro;kernel_rfl)|exact⟨_,by decide,rfl⟩
def sort179_ren:Go.Shelf.Ren:=⟨fun|6=>179|8=>220|9=>219|19=>262|20=>263|21=>253|22=>254|23=>255|24=>256|25=>257|26=>258|27=>259|28=>260|29=>261|36=>280|31=>281|32=>282|37=>283|38=>284|39=>285|41=>292|n=>n,fun|27=>30|29=>9|3=>3|32=>335|26=>30|0=>0|44=>365|46=>367|4=>4|36=>359|35=>358|41=>263|5=>5|9=>9|53=>374|57=>378|63=>387|64=>298|n=>n,fun|n=>n⟩
def sort179:Go.Proofs.SlLaysM.n6 prog sort179_ren:=by constructor<;>first|kernel_rfl|(intro;kernel_rfl)|exact⟨_,by decide,rfl⟩
def sorts134:AnyZ.SortsIn prog sorted134_ren Fence.wide d:=
 ⟨λdV g f a W b c e=>Zm.2 (AnyM.slices_Sort_string sort179 dV g f a W b c e),
  λm f W=>Zm.2 (AnyM.slices_Sort_string_none sort179 m f W)⟩
def maps_Keys_135(a:ib)(W:ay):CallsIn Fence.wide 5 prog 135 #[.map a] W λe b=>e=.returned (.func (.func 180) #[] #[.pointer (some ⟨W.heap.size,0,none⟩)])/\b =W.alloc (.cells #[.map a] 177):=AnyZ.keys_in keys135 Fence.wide 5 trivial rfl a W
def ady{H:Type}(b h:Nat)(a:DataW H)(q:az->Option (DataW H×List MemPlace))(w:ay)(d:w.ownsMap prog 9 q b h a)(u:Maps.size a<=maxLen)(z:Maps.size a*16<=140737488355328):
 CallsIn Fence.wide 5 prog 134 #[.func (.func 180) #[] #[.pointer (some (η w.heap.size 0))]] (w.alloc (.cells #[.map (some b)] 177)) λe f=>∃(v:az) (c:List (hU)),e=.returned v/\c.Perm (strKeys a)/\
  f.ownsRow (w.alloc (.cells #[.map (some b)] 177)).heap.size 9 1 v c.length ((c.mergeSort (λx y=>decide (x<=y))).map encStr)/\(v=.slice none 0 0↔c=[])/\Below (w.alloc (.cells #[.map (some b)] 177)).heap.size (w.alloc (.cells #[.map (some b)] 177)) f:=by
 have i:SeqGives Fence.wide 2 prog 180 #[.pointer (some (η w.heap.size 0))] encStr (λc=>c.Perm (strKeys a)) (Maps.size a) (w.alloc (.cells #[.map (some b)] 177)):=AnyZ.keys_gives (ρ:=keys135_ren) {keys135 with} Fence.wide _ trivial rfl (by omega) w.heap.size b h a _ (by simp) (by simp) (by have⟨A,r,l,p,B,o⟩:=d;exact⟨A,r,(Z0 _ _ b d.lt).trans l,p,B,o⟩);exact AnyZ.sorted_in sorted134 Fence.wide 5 trivial trivial trivial trivial rfl (by omega) (sorts134) (mL func179 (by kernel_rfl) rfl) 180 #[.pointer (some (η w.heap.size 0))] trivial (mL func180 (by kernel_rfl) rfl) _ _ u z _ i
end
section
open RowKit MapKept ChangeMaps Maps Go.Sort
def S5(a b:aj):a<=b\/b<=a:=List.le_total a b
def IL(h:a<=b)(g:b<=r):a<=r:=List.le_trans h g
def Uv(h:a<=b)(g:b<=a):a=b:=List.le_antisymm h g
def Gt(f:aJ)(a:fy):(jL f a).Perm (f::a):=by
 induction a with
 |nil=>exact List.Perm.refl _
 |cons g b c=>
  unfold jL;split
  ·exact List.Perm.refl _
  exact(List.Perm.cons g c).trans (List.Perm.swap f g b)
def Od(f:aJ)(e:fy)(h:e.Pairwise (λa b=>a.aL<=b.aL)):(jL f e).Pairwise (λa b=>a.aL<=b.aL):=by
 induction e with
 |nil=>simp[jL]
 |cons g j l=>
  unfold jL;rw[acO]at h;split
  ·rename_i i;have d:f.aL<=g.aL:=List.le_of_lt i;refine acO.2 ⟨λx c=>?_,acO.2 h⟩;obtain rfl|c:=YD.1 c
   ·exact d
   exact IL d (h.1 x c)
  rename_i o;have d:g.aL<=f.aL:=List.not_lt.1 o;refine acO.2 ⟨λx c=>?_,l h.2⟩;obtain rfl|c:=YD.1 ((Gt f j).mem_iff.1 c)
  ·exact d
  exact h.1 x c
theorem sortF_aux:∀(e c:fy),c.Pairwise (λa b=>a.aL<=b.aL)->(e.foldl (λc f=>jL f c) c).Pairwise (λa b=>a.aL<=b.aL)/\(e.foldl (λc f=>jL f c) c).Perm (c++e)
 |[],c,h=>⟨h,by simp⟩
 |f::d,c,h=>by have⟨j,i⟩:=sortF_aux d (jL f c) (Od f c h);refine⟨j,i.trans ?_⟩;refine((Gt f c).append_right d).trans ?_;exact(List.perm_middle (a:=f) (l₁:=c) (l₂:=d)).symm
def MP(c:fy):(eB c).Pairwise (λa b=>a.aL<=b.aL):=(sortF_aux c [] .nil).1
def yd(a:fy):(eB a).Perm a:=by have:=(sortF_aux a [] .nil).2;rw[Y2]at this;exact this
def ME(e:c.Perm (l.map (·.aL))):c.mergeSort (λx y=>decide (x<=y))=(eB l).map (·.aL):=by
 refine List.Perm.eq_of_pairwise (le:=λa b=>a<=b) (λa b _ _ h g=>Uv h g) ?_ ?_ ?_
 ·have:=List.pairwise_mergeSort (le:=λx y:aj=>decide (x<=y)) (λa b d h g=>by simp only[Zy]at h g⊢;exact IL h g) (λa b=>by simpa using S5 a b) c;simpa using this
 ·rw[List.pairwise_map];exact MP l
 exact(List.mergeSort_perm c _).trans (e.trans ((yd l).map _).symm)
def TE(b:nJ l){f:aJ}(a:f∈l):Pl.look l f.aL=some f:=by
 induction l with
 |nil=>cases a
 |cons g h c=>
  unfold nJ at b c;rw[YE,sT]at b;unfold Pl.look;obtain rfl|a:=YD.1 a
  ·simp
  have d:¬g.aL=f.aL:=λe=>b.1 (e▸ad2 a);rw[CY (by simpa using d)];exact c b.2 a
theorem EH:∀{a b:fv},a.map aK=b.map aK->a=b
 |[],[],_=>rfl|[],_::_,h=>by simp at h
 |_::_,[],h=>by simp at h
 |x::a,y::b,h=>by simp only[YE,ob]at h;rw[IJ h.1,EH h.2]
def oV:az->Option (DataW Unit×List MemPlace):=λ_=>some (.nil,[])
def bF.Xb{c:dr}(h:bF i d c){a:TypeId}(H:P.underlying a=some .string)(z:∀x∈c,x.1.length<=maxLen):
 ∃D:DataW Unit,i.ownsMap P a oV d c.length D/\Maps.size D=c.length/\(strKeys D).Perm (c.map (·.1)):=by
 have⟨w,q,E,F,p,l⟩:=h;have M:w.size=c.length:=by have:=Yg List.length l;simpa using this
 have r:∀x∈w.toList,∃k:aj,x.key=aK k/\WideElems.rd P a oV x=some (.string k,.nil):=λx b=>by
  have G:(x.key,x.val)∈c.map (λy=>(aK y.1,y.2)):=by rw[<-l];exact ad2 (f:=λe:MapEntry=>(e.key,e.val)) b
  have⟨y,A,e⟩:=YC.1 G;injection e with e1 e2;have p:=z y A;refine⟨y.1,e1.symm,?_⟩;have J:keyOf P a x.key=some (.string y.1):=by rw[<-e1];unfold aK;have:=WideMaps.keyOf_string_mk H (s:=⟨y.1.toArray⟩) (by simpa [ByteArray.size]using p);simpa using this
  unfold WideElems.rd oV;rw[J];rfl
 have v:WideElems.Fit P a oV w q:=⟨p,F,λx b=>by have⟨k,_,o⟩:=r x b;exact⟨_,o⟩⟩;have u:i.ownsMap P a oV d c.length (DataW.map ((w.toList.map (WideElems.rg P a oV)).foldr DataW.insert [])):=⟨w,q,E,v,by omega,rfl⟩;refine⟨_,u,?_,?_⟩
 ·show((w.toList.map (WideElems.rg P a oV)).foldr DataW.insert []).length=_;rw[length_sorted];simp[M]
 show(((w.toList.map (WideElems.rg P a oV)).foldr DataW.insert []).map λj=>strOf j.1).Perm _;refine((WideShapes.sorted_perm _).map _).trans ?_;rw[k6];have I:w.toList.map ((λj=>strOf j.1)∘WideElems.rg P a oV)=c.map (·.1):=by
  have K:(w.toList.map ((λj=>strOf j.1)∘WideElems.rg P a oV)).map aK=(c.map (·.1)).map aK:=by
   rw[k6,k6];have B:w.toList.map (λe=>e.key)=c.map (λx=>aK x.1):=by have:=Yg (List.map Prod.fst) l;simpa [List.map_map,Function.comp_def]using this
   rw[show (aK∘λx:aj×az=>x.1)=(λx=>aK x.1) from rfl,<-B];refine E1 (λx b=>?_);have⟨k,C,o⟩:=r x b;simp only[Function.comp];rw[WideElems.rg_of o,C];rfl
  exact EH K
 rw[I]
end
namespace Pl
open RowKit
end Pl



