/- . -/
import Derived.Test.YtjelacjggijmfaaGreatDoorYMP3
import Derived.Test.YtjelacjggijmfaaGreatDoorYGDA
set_option maxHeartbeats 4000000
set_option maxRecDepth 20000
namespace Go.Proofs.YtjelacjggijmfaaGreatDoor
open Pl Mk Cp Proofs.Tryz
open RowKit
structure Ru where
 tg:List ag
 nd:List ag
 cs:List (ag×Nat)
 b_:Bool
 ph:Bool
def cQ:Ru:=⟨[],[],[],false,false⟩
structure Bk where
 aV:List Rn
 aD:List Ru
 cj:Nat
 cy:Nat
 bW:Nat
open Classical in
noncomputable def dd (N:ag->Nv) (a:ag):Er:=if h:∃c,bM N (λ_=>none) [] 0 [] a c then h.choose else⟨[],0,0⟩
variable {e:ag}
theorem Qf {N:ag->Nv}{a:Er}(h:bM N (λ_=>none) [] 0 [] e a):dd N e=a:=by have c:∃a,bM N (λ_=>none) [] 0 [] e a:=⟨a,h⟩;unfold dd;rw[dif_pos c];exact bM.kC c.choose_spec h
theorem RH (L:NL)(a:ag):dq L a=dd (cW L) a:=rfl
def Bk.dk (b:Bk)(e n:Nat):Bk:={b with cy:=e,bW:=n}
def dP (w:ag):Nat:=List.count 37 w
def eJ (a:List ag):Bool:=a.any λt=>decide (0<dP t)
def oH (a:List ag)(t:ag):Bool:=decide (1<dP t)||(decide (0<dP t)&&decide (1<a.length))
def qq (a:Bool)(n:ag):Bool:=decide (1<dP n)||(decide (0<dP n)&& !a)
def mN (a c:List ag):Bool:=(decide (a.length=0)||a.any (oH a))||c.any (qq (eJ a))
def fC (a c:List ag):Ru:=⟨a,c,[],eJ a,decide (a=[ra])⟩
noncomputable def fZ (b:Bk) (a c:ag) (n:Nat):Bk:=
 if(dd (nR b.aV) a).er≠0 then b.dk (dd (nR b.aV) a).er n
 else if(dd (nR b.aV) c).er≠0 then b.dk (dd (nR b.aV) c).er n
 else if mN (bH (dd (nR b.aV) a).bE) (bH (dd (nR b.aV) c).bE)=true then b.dk 1 n
 else if 64<=b.aD.length then b.dk 5 n
 else {b with aD:=b.aD++[fC (bH (dd (nR b.aV) a).bE) (bH (dd (nR b.aV) c).bE)]}
def eP (name:ag)(a:Ru):Bool:=dO name a.tg&&(!a.b_&&(!a.ph&&decide (0<a.cs.length)))
def fD (rs:List Ru)(name:ag)(k:Int):Option Nat:=(List.range rs.length).find? λa=>decide ((a:Int)≠k)&&eP name (rs.getD a cQ)
def kb (b:Bk):Ru:=b.aD.getD (b.aD.length-1) cQ
def oq (b:Bk):Bool:=decide ((kb b).cs.length=0)&&(!(kb b).b_&&(kb b).tg.any λt=>(fD b.aD t ((b.aD.length-1:Nat):Int)).isSome)
def kH (b:Bk)(c:ag)(n:Nat):Bk:=
 if oq b=true then b.dk 6 n
 else {b with aD:=b.aD.set (b.aD.length-1) {kb b with cs:=(kb b).cs++[(c,n)]}}
section
variable (rec:Bk->ag->Bk) (can:Bool) (fs:List aI)
def jk (b:Bk)(w:ag)(n:Nat):Bk:=match Pl.look fs w with
 |none=>b.dk 2 n
 |some a=>if can=false then b.dk 3 n else if 100<=b.cj then b.dk 5 n else rec {b with cj:=b.cj+1} a.aT
def j5 (n:Nat):List ag->Bk->Bk
 |[],b=>b
 |w::a,b=>if b.cy≠0 then b else j5 n a (jk rec can fs b w n)
noncomputable def lV (b:Bk) (a:ag) (n:Nat):Bk:=if(dd (nR b.aV) a).er≠0 then b.dk (dd (nR b.aV) a).er n else j5 rec can fs n (bH (dd (nR b.aV) a).bE) b
noncomputable def rA (b:Bk) (c a:ag) (n:Nat):Bk:=if(dd (nR b.aV) a).er≠0 then {b.dk (dd (nR b.aV) a).er n with aV:=b.aV++[⟨c,[],true⟩]} else {b with aV:=b.aV++[⟨c,(dd (nR b.aV) a).bE,true⟩]}
noncomputable def fM (b:Bk) (op:Bool) (x:Nat×ag):Bool×Bk:=
 if rk (br x.2)=0 then(op,b)
 else if rk (br x.2)=99 then(op,if op=true then kH b (br x.2).1.right x.1 else b.dk 1 x.1)
 else if rk (br x.2)=105 then(false,lV rec can fs b (br x.2).1.right x.1)
 else if rk (br x.2)=108 then(false,{b with aV:=b.aV++[⟨(br x.2).1.left,(br x.2).1.right,false⟩]})
 else if rk (br x.2)=102 then(false,rA b (br x.2).1.left (br x.2).1.right x.1)
 else if rk (br x.2)=114 then(decide ((fZ b (br x.2).1.left (br x.2).1.right x.1).cy=0)&& !(kb (fZ b (br x.2).1.left (br x.2).1.right x.1)).ph,fZ b (br x.2).1.left (br x.2).1.right x.1)
 else(op,b.dk 1 x.1)
noncomputable def jj:List (Nat×ag)->Bk->Bool->Bk
 |[],b,_=>b
 |x::xs,b,op=>if b.cy≠0 then b else jj xs (fM rec can fs b op x).2 (fM rec can fs b op x).1
end
noncomputable def jP (fs:List aI):Nat->Bk->ag->Bk
 |0,b,a=>jj (λb _=>b) false fs (di a) b false
 |d+1,b,a=>jj (jP fs d) true fs (di a) b false
def lp:Bk:=⟨[],[],0,0,0⟩
noncomputable def eb (fs:List aI) (c:ag):Bk:=match Pl.look fs c with
 |none=>{lp with cy:=2}
 |some a=>jP fs 3 lp a.aT
def cX (a:List ag)(n:ag):List ag:=if dO n a=true then a else a++[n]
def cH (s a:ag):ag:=match s with
 |[]=>[]
 |c::d=>if c=37 then a++d else c::cH d a
def de (name:ag)(a:Ru):Bool:=dO name a.tg&&(!a.b_&& !a.ph)
def jT (b:Bk)(name:ag):Bool:=b.aD.any (de name)
def ft (b:Bk)(name:ag):Bool:=b.aD.any λa=>dO name a.nd&&a.ph
def fN (a name:ag):ag:=
 if name.length<a.length then []
 else if cH a ((name.drop (Mk.bj 37 a).length).take (name.length-a.length+1))=name then(name.drop (Mk.bj 37 a).length).take (name.length-a.length+1) else []
def jR (b:Bk)(fs:List aI)(n:ag):Bool:=(Pl.look fs n).isSome||jT b n
def gn (b:Bk)(fs:List aI)(name:ag)(a:Ru):Bool:=a.b_&&(decide (0<a.cs.length)&&(decide (fN (a.tg.headD []) name≠[])&&a.nd.all λn=>jR b fs (cH n (fN (a.tg.headD []) name))))
structure Nr where
 name:ag
 aF:List ag
 gu :Option Nat
 stem:ag
 ph:Bool
def jD (b:Bk)(fs:List aI)(name:ag):Option Nat:=(List.range b.aD.length).find? λa=>gn b fs name (b.aD.getD a cQ)
def lA (b:Bk)(name:ag)(a:List ag):List ag:=b.aD.foldl (λa c=>if de name c=true then c.nd.foldl cX a else a) a
def cT (b:Bk)(fs:List aI)(name:ag):Nr×Bool:=
 if fD b.aD name (-1)=none/\ft b name=false then
  match jD b fs name with
  |some a=>(⟨name,lA b name (((b.aD.getD a cQ).nd.map λn=>cH n (fN ((b.aD.getD a cQ).tg.headD []) name)).foldl cX []),some a,fN ((b.aD.getD a cQ).tg.headD []) name,ft b name⟩,true)|none=>(⟨name,lA b name [],none,[],ft b name⟩,jT b name||(ft b name||(Pl.look fs name).isSome))
 else(⟨name,lA b name [],fD b.aD name (-1),[],ft b name⟩,jT b name||(ft b name||(Pl.look fs name).isSome))
def I4:Nr:=⟨[],[],none,[],false⟩
structure Wk where
 aQ:List (Nr×Bool)
 aW:List Nat
def jg:Wk:=⟨[],[]⟩
def dj (a:List (Nr×Bool))(n:ag):Option Nat:=a.findIdx? λx=>x.1.name==n
def bS (t:Wk)(a:Nat):Nr×Bool:=t.aQ.getD a (I4,false)
def fJ (rec:Wk->ag->Option (Nat×Wk)):List ag->Wk->Option (Nat×Wk)
 |[],t=>some (0,t)
 |n::a,t=>match dj t.aQ n with
  |none=>match rec t n with
   |none=>none
   |some q=>if q.1≠0 then some q else fJ rec a q.2
  |some c=>if(bS t c).2=true then fJ rec a t else some (7,t)
def eG (t:Wk)(x:Nr):Wk:=⟨t.aQ++[(x,false)],t.aW⟩
def iC (t:Wk)(k:Nat):Wk:=⟨t.aQ.set k ((bS t k).1,true),t.aW++[k]⟩
def dZ (b:Bk)(fs:List aI):Nat->Wk->ag->Option (Nat×Wk)
 |0,_,_=>none
 |f+1,t,name=>if(cT b fs name).2=false then some (8,t)
  else match fJ (dZ b fs f) (cT b fs name).1.aF (eG t (cT b fs name).1) with
   |none=>none
   |some q=>some (q.1,iC q.2 t.aQ.length)
def gJ (a:List ag):Bool:=cS (a.headD [])
def rE (T:List (List ag)):List Nat:=(List.range T.length).filter λa=>gJ (T.getD a [])
def lG (t:ag)(c:Nat)(a:List ag):List Nat:=if gJ a=true then [] else(a.filter (·==t)).map λ_=>c
def mM (T:List (List ag))(t:ag):List Nat:=(List.range T.length).flatMap λa=>lG t a (T.getD a [])
def qx (T:List (List ag)):ag:=((T.find? λa=> !gJ a).getD []).headD []
variable {c q:Nat}
theorem uj {α:Type}(T:List α)(a d:α)(h:c<T.length):(T++[a]).getD c d=T.getD c d:=by rw[TO,TO,UZ h]
theorem sw {α:Type}(T:List α)(a d:α):(T++[a]).getD T.length d=a:=by rw[TO,Uq ak];simp
theorem Eo (T:List (List ag))(a:List ag):rE (T++[a])=rE T++if gJ a=true then [T.length] else []:=by
 unfold rE;rw[TE,T6,List.range_succ,VQ];congr 1
 ·exact List.filter_congr λd c=>by rw[uj T a [] (VE.1 c)]
 ·rw[Wo,sw];rfl
theorem BE {α β:Type}{f c:α->List β}:∀(a:List α),(∀x∈a,f x=c x)->a.flatMap f=a.flatMap c
 |[],_=>rfl|x::a,h=>by rw[Ud,Ud,h x (TY ..),BE a λy d=>h y (TX _ d)]
theorem DN (T:List (List ag))(a:List ag)(t:ag):mM (T++[a]) t=mM T t++lG t T.length a:=by
 unfold mM;rw[TE,T6,List.range_succ,US];congr 1
 ·exact BE _ λd c=>by rw[uj T a [] (VE.1 c)]
 ·rw[List.flatMap_singleton,sw]
theorem MD (T:List (List ag))(a:List ag)(h:∀x∈T,x.headD []≠[]):qx (T++[a])=if qx T=[] then(if gJ a=true then [] else a.headD []) else qx T:=by
 unfold qx;rw[List.find?_append];cases c:T.find? λa=> !gJ a with
 |none=>rw[YS,Option.getD_none,TP (show ([]:List ag).headD []=[] from rfl),Zd];cases gJ a<;>rfl
 |some x=>rw[Option.some_or,YZ,TJ (h x (Uw c))]
theorem Qu (b:UInt8)(a:ag):decide (0<=Lib.index a [b])=decide (0<List.count b a):=by
 obtain⟨e,d⟩:=ud b a;cases c:a.contains b with
 |true=>rw[e c];have:0<List.count b a:=ZI.2 (by simpa using c);rw[Uz this,Uz (by omega)]
 |false=>rw[d c];have:List.count b a=0:=ZJ.2 (by simpa using c);rw[UA (by omega),UA (by omega)]
theorem uB (s:ag):cS s=decide (0<dP s):=Qu 37 s
theorem Em (s:ag):iT s=decide (1<dP s):=rfl
theorem An (a q:ag->Bool):∀c:List ag,(c.any λt=>a t||q t)=(c.any a||c.any q)
 |[]=>rfl|x::d=>by rw[VI,VI,VI,An a q d];cases a x<;>cases q x<;>cases d.any a<;>rfl
theorem zK (a:ag->Bool)(c:Bool):∀e:List ag,(e.any λt=>a t&&c)=(e.any a&&c)
 |[]=>rfl|x::d=>by rw[VI,VI,zK a c d];cases a x<;>cases c<;>cases d.any a<;>rfl
theorem M1 (e g:List ag):kp e g= !mN e g:=by
 have e1:e.any (oH e)=(e.any iT||(e.any cS&&decide (1<e.length))):=by rw[<-zK,<-An];congr 1;funext t;unfold oH;rw[uB,Em]
 have e2:g.any (qq (eJ e))=(g.any iT||(g.any cS&& !e.any cS)):=by
  have:eJ e=e.any cS:=by unfold eJ;congr 1;funext t;rw[uB]
  rw[<-zK,<-An,this];congr 1;funext t;unfold qq;rw[uB,Em]
 unfold kp mN;rw[e1,e2];generalize e.any iT=a;generalize e.any cS=b;generalize g.any iT=c;generalize g.any cS=d;generalize e.length=n;cases a<;>cases b<;>cases c<;>cases d<;>by_cases i:n=0<;>by_cases h:n=1<;>simp[i,h]<;>omega
variable {a g:List ag}
theorem zy (h:mN a g=false):eJ a=gJ a/\(eJ a=true->∃x,a=[x])/\a≠[]:=by
 unfold mN at h;rw[UD,UD] at h;obtain⟨⟨p,i⟩,-⟩:=h;unfold gJ;rw[uB];cases a with
 |nil=>simp at p
 |cons x c=>
  rw[VI,UD] at i;cases c with
  |nil=>exact⟨by simp[eJ],λ_=>⟨x,rfl⟩,by simp⟩
  |cons y c=>
   have n:∀z∈x::y::c,¬0<dP z:=λz j d=>by have l:(x::y::c).any (oH (x::y::c))=true:=VD.2 ⟨z,j,by unfold oH;simp[d]⟩;rw[VI,i.1,i.2] at l;cases l
   have d:eJ (x::y::c)=false:=by unfold eJ;rw[VG];exact λz j=>by simpa using n z j
   rw[d];exact⟨by simpa using n x (TY ..),λe=>(by cases e),by simp⟩
theorem vH:∀(i a:ag),∀w∈eB a i,w≠[]
 |[],a,w,h=>by
  unfold eB at h;split at h
  ·cases h
  ·rename_i g;rw[TL.1 h];exact λe=>g (by rw[e];rfl)
 |c::d,a,w,h=>by
  unfold eB at h;split at h
  ·split at h
   ·exact vH d [] w h
   ·rename_i g;rcases Ue.1 h with rfl|h
    ·exact λe=>g (by rw[e];rfl)
    ·exact vH d [] w h
  ·exact vH d _ w h
theorem K_ {w:ag}(h:w∈bH e):w≠[]:=vH e [] w h
theorem GO (k:ag)(v:Nv):∀(L:NL) (n:ag),cW (jX L k v) n=if(k==n)=true then v else cW L n
 |[],n=>by unfold cW jX;rw[Zd];cases h:k==n<;>simp
 |x::g,n=>by
  have d:=GO k v g n;unfold cW at d⊢;rw[jX];cases c:x.1==k with
  |true=>
   simp only[Vn];rw[UT,UT];have e:x.1=k:=by simpa using c
   rw[e];cases h:k==n<;>simp
  |false=>
   simp only[Uj,Vk];rw[UT,UT (a:=x)];cases h:x.1==n with
   |true=>
    have i:(k==n)=false:=by rw[TQ] at c⊢;intro e;exact c (by rw[e];simpa using h)
    simp[i]
   |false=>exact d
theorem QN (a:List ag):∀(c:List ag) (x:ag),x∈a.foldl j_ c↔x∈c\/x∈a:=by
 induction a with
 |nil=>simp
 |cons y g d=>
  intro c x;rw[Ux,d];unfold j_;split
  ·rename_i e;simp only[Ue];constructor
   ·rintro(h|h)
    ·exact .inl h
    ·exact .inr (.inr h)
   ·rintro(h|rfl|h)
    ·exact .inl h
    ·exact .inl e
    ·exact .inr h
  ·rw[T4,TL,Ue,or_assoc]
theorem Gw (a:Nat):∀(c:List ag) (s:St),(c.foldl (dH a) s).of=(λt=>s.of t++(c.filter (·==t)).map λ_=>a)/\(c.foldl (dH a) s).aV=s.aV/\(c.foldl (dH a) s).aD=s.aD/\(c.foldl (dH a) s).bD=s.bD/\(c.foldl (dH a) s).first=s.first/\(c.foldl (dH a) s).ph=s.ph/\(c.foldl (dH a) s).n=s.n/\(c.foldl (dH a) s).inc=s.inc/\(c.foldl (dH a) s).opn=s.opn
 |[],s=>⟨by funext t;simp,rfl,rfl,rfl,rfl,rfl,rfl,rfl,rfl⟩
 |x::g,s=>by
  obtain⟨i,h⟩:=Gw a g (dH a s x);rw[Ux];refine⟨?_,h⟩;rw[i];funext t;show mI s.of x (s.of x++[a]) t++_=_;unfold mI;rw[Wo];by_cases d:t=x
  ·subst d;simp
  ·have:(x==t)=false:=by simpa using λe=>d e.symm
   simp[d,this]
def iS (a:Ru):Rl:=⟨a.tg,bJ a.nd [],a.cs⟩
def dv (rs:List Ru):List Rl:=(rs.filter λa=> !a.ph).map iS
def eI (rs:List Ru):List (List ag):=(rs.filter λa=> !a.ph).map (·.tg)
theorem Hi (rs:List Ru):(dv rs).map (·.tg)=eI rs:=by unfold dv eI;rw[WT];rfl
theorem wW (rs:List Ru):(eI rs).length=(dv rs).length:=by rw[<-Hi,TR]
theorem p9 (rs:List Ru)(a:Ru):dv (rs++[a])=dv rs++if a.ph=true then [] else [iS a]:=by unfold dv;rw[VQ,T',Wo];cases a.ph<;>rfl
theorem zB (rs:List Ru)(a:Ru):eI (rs++[a])=eI rs++if a.ph=true then [] else [a.tg]:=by unfold eI;rw[VQ,T',Wo];cases a.ph<;>rfl
structure dr (s:St)(b:Bk):Prop where
 nm:cW s.aV=nR b.aV
 rl:s.aD=dv b.aD
 n:s.n=b.aD.length
 iP:b.aD.length<=64
 inc:s.inc=b.cj
 pE:b.cj<=100
 ph:∀x,x∈s.ph↔∃r∈b.aD,r.ph=true/\x∈r.nd
 ru:∀r∈b.aD,r.b_=eJ r.tg/\eJ r.tg=gJ r.tg/\(eJ r.tg=true->∃x,r.tg=[x])/\r.tg≠[]/\(∀x∈r.tg,x≠[])/\(r.ph=true->r.cs=[])/\∀n∈r.nd,dP n<=1
 bD:s.bD=rE (eI b.aD)
 of:∀t,s.of t=mM (eI b.aD) t
 first:s.first=qx (eI b.aD)
 er:b.cy=0/\b.bW=0
theorem SL:dr il lp where
 nm:=rfl
 rl:=rfl
 n:=rfl
 iP:=by decide
 inc:=rfl
 pE:=by decide
 ph x:=by simp[il,lp]
 ru r h:=by cases h
 bD:=rfl
 of t:=rfl
 first:=rfl
 er:=⟨rfl,rfl⟩
section
variable {s:St} {b:Bk}
theorem dr.ya (h:dr s b)(t:ag):dq s.aV t=dd (nR b.aV) t:=by rw[RH,h.nm]
theorem dr.rR (h:dr s b)(o:Nat):dr {s with opn:=o} b:=⟨h.nm,h.rl,h.n,h.iP,h.inc,h.pE,h.ph,h.ru,h.bD,h.of,h.first,h.er⟩
theorem dr.name (h:dr s b)(c t:ag)(a:Bool):dr {s with aV:=jX s.aV c ⟨t,!a⟩} {b with aV:=b.aV++[⟨c,t,a⟩]}:=by refine⟨?_,h.rl,h.n,h.iP,h.inc,h.pE,h.ph,h.ru,h.bD,h.of,h.first,h.er⟩;funext n;show cW (jX s.aV c ⟨t,!a⟩) n=nR (b.aV++[⟨c,t,a⟩]) n;rw[GO,Gs,h.nm]
theorem SC (c:mN a g=false)(e:∀x∈a,x≠[]):(fC a g).b_=eJ (fC a g).tg/\eJ (fC a g).tg=gJ (fC a g).tg/\(eJ (fC a g).tg=true->∃x,(fC a g).tg=[x])/\(fC a g).tg≠[]/\(∀x∈(fC a g).tg,x≠[])/\((fC a g).ph=true->(fC a g).cs=[])/\∀n∈(fC a g).nd,dP n<=1:=⟨rfl,(zy c).1,(zy c).2.1,(zy c).2.2,e,λ_=>rfl,λn h=>by unfold mN at c;have d:=VG.1 (UD.1 c).2 n h;unfold qq at d;simp at d;omega⟩
theorem dr.Si (h:dr s b):∀x∈eI b.aD,x.headD []≠[]:=λx i=>by
 obtain⟨a,e,rfl⟩:=Uc.1 i;obtain⟨-,-,-,g,d,-⟩:=h.ru a (Vt.1 e).1;cases c:a.tg with
 |nil=>exact absurd c g
 |cons y j=>exact d y (by rw[c];exact TY ..)
theorem dr.jz (h:dr s b)(K:mN a g=false)(P:∀x∈a,x≠[])(hn:b.aD.length<64):
 dr (bp {s with n:=s.n+1} a g).2 {b with aD:=b.aD++[fC a g]}/\(bp {s with n:=s.n+1} a g).1=(if (fC a g).ph=true then none else some (dv b.aD).length)/\(bp {s with n:=s.n+1} a g).2.opn=s.opn:=by
 have B:∀c∈b.aD++[fC a g],c.b_=eJ c.tg/\eJ c.tg=gJ c.tg/\(eJ c.tg=true->∃x,c.tg=[x])/\c.tg≠[]/\(∀x∈c.tg,x≠[])/\(c.ph=true->c.cs=[])/\∀n∈c.nd,dP n<=1:=λc q=>by
  rcases T4.1 q with q|q
  ·exact h.ru c q
  ·rw[TL.1 q];exact SC K P
 have j:(b.aD++[fC a g]).length=b.aD.length+1:=by rw[TE];rfl
 have F:∀(C:List ag),(∀x,x∈C↔x∈s.ph\/((fC a g).ph=true/\x∈g))->∀x,x∈C↔∃c∈b.aD++[fC a g],c.ph=true/\x∈c.nd:=λC S x=>by
  rw[S,h.ph];constructor
  ·rintro(⟨c,d,l⟩|d)
   ·exact⟨c,Ul _ d,l⟩
   ·exact⟨_,Un _ (TL.2 rfl),d⟩
  ·rintro⟨c,d,l⟩;rcases T4.1 d with d|d
   ·exact .inl ⟨c,d,l⟩
   ·rw[TL.1 d] at l;exact .inr l
 have u:=p9 b.aD (fC a g);have i:=zB b.aD (fC a g);unfold bp;by_cases z:a=[ra]
 ·have e:(fC a g).ph=true:=Uz z;rw[TP z];simp only[e,Vn,Vs] at u i⊢;exact⟨⟨h.nm,by rw[u];exact h.rl,by rw[j,<-h.n],by rw[j];omega,h.inc,h.pE,F _ (λx=>by rw[QN];simp[e]),B,by rw[i];exact h.bD,by rw[i];exact h.of,by rw[i];exact h.first,h.er⟩,trivial,trivial⟩
 ·have e:(fC a g).ph=false:=UA z;have D :=F s.ph (λx=>by simp[e]);rw[TJ z];simp only[e,Uj,Vk] at u i⊢;have E:s.aD.length=(eI b.aD).length:=by rw[h.rl,wW]
  have G:∀t,mM (eI (b.aD++[fC a g])) t=s.of t++lG t s.aD.length a:=λt=>by rw[i,DN,h.of,E];rfl
  have r:rE (eI (b.aD++[fC a g]))=s.bD++if gJ a=true then [s.aD.length] else []:=by rw[i,Eo,h.bD,E];rfl
  have w:qx (eI (b.aD++[fC a g]))=if s.first=[] then(if gJ a=true then [] else a.headD []) else s.first:=by rw[i,MD _ _ h.Si,h.first];rfl
  have H:s.aD++[⟨a,bJ g [],[]⟩]=dv (b.aD++[fC a g]):=by rw[u,h.rl];rfl
  by_cases y:cS (a.headD [])=true
  ·have p :gJ a=true:=y;rw[TP y];rw[p] at r w;refine⟨⟨h.nm,H,by rw[j,<-h.n],by rw[j];omega,h.inc,h.pE,D,B,by rw[r];rfl,λt=> ?_,?_,h.er⟩,by rw[<-h.rl],rfl⟩
   ·rw[G];unfold lG;rw[TP p,Vs]
   ·rw[w];split
    ·rename_i hq;exact hq
    ·rfl
  ·have p :gJ a=false:=YT.2 y;rw[TJ y];rw[p] at r w;unfold lu;generalize R:(if ({s with n:=s.n+1,aD:=s.aD++[⟨a,bJ g [],[]⟩]}:St).first=[] then {({s with n:=s.n+1,aD:=s.aD++[⟨a,bJ g [],[]⟩]}:St) with first:=a.headD []} else {s with n:=s.n+1,aD:=s.aD++[⟨a,bJ g [],[]⟩]})=s1;have V:s1.aV=s.aV/\s1.aD=s.aD++[⟨a,bJ g [],[]⟩]/\s1.bD=s.bD/\s1.of=s.of/\s1.ph=s.ph/\s1.n=s.n+1/\s1.inc=s.inc/\s1.opn=s.opn/\s1.first=if s.first=[] then a.headD [] else s.first:=by
    rw[<-R];by_cases A:s.first=[]
    ·rw[TP A,TP A];exact⟨rfl,rfl,rfl,rfl,rfl,rfl,rfl,rfl,rfl⟩
    ·rw[TJ A,TJ A];exact⟨rfl,rfl,rfl,rfl,rfl,rfl,rfl,rfl,rfl⟩
   obtain⟨a1,U,a3,O,M,a6,J,I,a9⟩:=V;obtain⟨Y,b2,L,b4,Z,b6,Q,b8,N⟩:=Gw s.aD.length a s1;refine⟨⟨by rw[b2,a1];exact h.nm,by rw[L,U];exact H,by rw[Q,a6,j,h.n],by rw[j];omega,by rw[b8,J];exact h.inc,h.pE,by rw[b6,M];exact D,B,by rw[b4,a3,r];simp,λt=> ?_,?_,h.er⟩,by rw[<-h.rl],by rw[N,I]⟩
   ·rw[G,Y,O];unfold lG;rw[p];rfl
   ·rw[Z,a9,w];rfl
end
def tS (b:Bk)(op:Option Nat)(o:Bool):Prop:=(o=false/\op=none)\/(o=true/\∃c a,b.aD=c++[a]/\a.ph=false/\op=some (dv c).length)
theorem RF {rs:List Ru}{t:ag}{s:St}(y:s.aD=dv rs)(w:s.of t=mM (eI rs) t)(j:∀a∈rs,a.b_=eJ a.tg/\eJ a.tg=gJ a.tg):((s.of t).any (kh s))=rs.any (eP t):=by
 have d:((s.of t).any (kh s))=true↔rs.any (eP t)=true:=by
  rw[VD,VD];constructor
  ·rintro⟨L,d,e⟩;rw[w] at d;unfold mM at d;obtain⟨c,n,i⟩:=Wp.1 d;have h:c<(dv rs).length:=by rw[<-wW];exact VE.1 n
   unfold lG at i;split at i
   ·cases i
   ·rename_i l;obtain⟨x,u,g⟩:=Uc.1 i;subst g;obtain⟨g,H⟩:=Vt.1 u;have E:x=t:=by simpa using H
    subst E;unfold kh at e;rw[y,TH h] at e;have r:(dv rs)[c]∈dv rs:=TV h;have J:(eI rs).getD c []=((dv rs)[c]).tg:=by rw[<-Hi,TO,UG,TH h];rfl
    rw[J] at l g;generalize (dv rs)[c]=q at r l g e;unfold dv at r;obtain⟨a,B,rfl⟩:=Uc.1 r;obtain⟨p,G⟩:=Vt.1 B;refine⟨a,p,?_⟩;unfold eP dO;have e1:a.b_=false:=by rw[(j a p).1,(j a p).2];exact YT.2 l
    have e2:a.ph=false:=by simpa using G
    have e3:decide (x∈a.tg)=true:=Uz g;have I:decide (0<a.cs.length)=true:=e;rw[e1,e2,e3,I];rfl
  ·rintro⟨a,d,e⟩;unfold eP dO at e;simp only[U0,Xc,U6] at e;obtain⟨n,i,u,g⟩:=e;have A:a∈rs.filter λa=> !a.ph:=Vt.2 ⟨d,by rw[u];rfl⟩;obtain⟨c,h,z⟩:=U8 A;have K:c<(eI rs).length:=by unfold eI;rw[TR];exact h
   have D:(eI rs).getD c []=a.tg:=by unfold eI;rw[TO,UG,TH h,z];rfl
   refine⟨c,?_,?_⟩
   ·rw[w];unfold mM;refine Wp.2 ⟨c,VE.2 K,?_⟩;rw[D];unfold lG;rw[TJ (by rw[<-(j a d).2,<-(j a d).1,i];exact ZK)];exact Uc.2 ⟨t,Vt.2 ⟨n,by simp⟩,rfl⟩
   ·unfold kh;rw[y];have:(dv rs)[c]?=some (iS a):=by unfold dv;rw[UG,TH h,z];rfl
    rw[this];exact Uz g
 cases F:(s.of t).any (kh s)<;>cases C:rs.any (eP t)<;>rw[F,C] at d<;>simp at d<;>rfl
theorem M3 (rs:List Ru)(t:ag)(k:Nat)(h:eP t (rs.getD k cQ)=false):(fD rs t (k:Int)).isSome=rs.any (eP t):=by
 unfold fD;have c:((List.range rs.length).find? λ(a:Nat)=>decide ((a:Int)≠(k:Int))&&eP t (rs.getD a cQ)).isSome=true↔rs.any (eP t)=true:=by
  rw[List.find?_isSome,VD];constructor
  ·rintro⟨a,c,d⟩;have g:=VE.1 c;rw[U0] at d;refine⟨_,TV g,?_⟩;have:=d.2;rwa [TO,TH g] at this
  ·rintro⟨l,c,d⟩;obtain⟨a,g,rfl⟩:=U8 c;have e:rs.getD a cQ=rs[a]:=by rw[TO,TH g];rfl
   refine⟨a,VE.2 g,?_⟩;rw[e,d,X0];refine Uz λq=> ?_;have:a=k:=by omega
   subst this;rw[e,d] at h;cases h
 cases j:((List.range rs.length).find? λ(a:Nat)=>decide ((a:Int)≠(k:Int))&&eP t (rs.getD a cQ)).isSome<;>cases i:rs.any (eP t)<;>rw[j,i] at c<;>simp at c<;>rfl
variable {i:List Ru}{d:Ru}
section
variable {s:St} {b:Bk}
theorem yY (h:b.aD=i++[d]):kb b=d/\b.aD.length-1=i.length:=by
 have e:b.aD.length-1=i.length:=by rw[h,TE];rfl
 refine⟨?_,e⟩;unfold kb;rw[e,h,sw]
theorem dr.Sk (h:dr s b)(j:b.aD=i++[d]):(d.cs.length=0/\(d.tg.any λt=>(s.of t).any (kh s))=true)↔oq b=true:=by
 obtain⟨e1,e2⟩:=yY j;have c:d∈b.aD:=by rw[j];exact Un _ (TL.2 rfl)
 have z:∀t,(s.of t).any (kh s)=b.aD.any (eP t):=λt=>RF h.rl (h.of t) λd c=>⟨(h.ru d c).1,(h.ru d c).2.1⟩;unfold oq;rw[e1,e2];simp only[z];by_cases g:d.cs.length=0
 ·have r:∀t,eP t (b.aD.getD i.length cQ)=false:=λt=>by
   rw[j,sw];unfold eP;rw[UA (by omega)];simp
  have:(d.tg.any λt=>(fD b.aD t ((i.length:Nat):Int)).isSome)=d.tg.any λt=>b.aD.any (eP t):=by congr 1;funext t;exact M3 b.aD t i.length (r t)
  rw[this,Uz g,Vz];cases y:d.b_ with
  |false=>simp[g]
  |true=>
   obtain⟨a,A,p,-⟩:=h.ru d c;rw[y] at a;obtain⟨x,n⟩:=p a.symm;have:(d.tg.any λt=>b.aD.any (eP t))=false:=by rw[n,VI,List.any_nil,XD,VG];intro q w e;unfold eP dO at e;simp only[U0,Xc,U6] at e;have l:=(h.ru q w).1;rw[e.2.1] at l;unfold eJ at l a;rw[n] at a;have u:=VG.1 l.symm x e.1;simp at a u;omega
   rw[this];simp
 ·rw[UA g];simp[g]
theorem dr.ej (h:dr s b)(j:b.aD=i++[d])(l:d.ph=false)(c:ag×Nat):
 dr {s with aD:=s.aD.set (dv i).length {iS d with cs:=(iS d).cs++[c]}} {b with aD:=b.aD.set i.length {d with cs:=d.cs++[c]}}/\b.aD.set i.length {d with cs:=d.cs++[c]}=i++[{d with cs:=d.cs++[c]}]:=by
 have e:b.aD.set i.length {d with cs:=d.cs++[c]}=i++[{d with cs:=d.cs++[c]}]:=by rw[j,Vg _ _ ak];simp
 have er:s.aD=dv i++[iS d]:=by rw[h.rl,j,p9,l];rfl
 have r:eI (b.aD.set i.length {d with cs:=d.cs++[c]})=eI b.aD:=by rw[e,j,zB,zB]
 refine⟨⟨h.nm,?_,?_,?_,h.inc,h.pE,λx=> ?_,λq D=> ?_,?_,λt=> ?_,?_,h.er⟩,e⟩
 ·show s.aD.set (dv i).length _=dv (b.aD.set i.length _);rw[e,er,p9,Vg _ _ ak];show _=_++(if d.ph=true then _ else _);rw[l];simp[iS]
 ·show s.n=(b.aD.set i.length _).length;rw[UB];exact h.n
 ·show(b.aD.set i.length _).length<=64;rw[UB];exact h.iP
 ·show x∈s.ph↔∃q∈b.aD.set i.length _,_;rw[h.ph,e,j];constructor
  ·rintro⟨q,a,g,p⟩;rcases T4.1 a with a|a
   ·exact⟨q,Ul _ a,g,p⟩
   ·rw[TL.1 a,l] at g;cases g
  ·rintro⟨q,a,g,p⟩;rcases T4.1 a with a|a
   ·exact⟨q,Ul _ a,g,p⟩
   ·rw[TL.1 a] at g;have:d.ph=true:=g;rw[l] at this;cases this
 ·have u :q∈b.aD.set i.length {d with cs:=d.cs++[c]}:=D;rw[e] at u;rcases T4.1 u with a|a
  ·exact h.ru q (by rw[j];exact Ul _ a)
  ·rw[TL.1 a];obtain⟨z,B,w,y,A,-,C⟩:=h.ru d (by rw[j];exact Un _ (TL.2 rfl));exact⟨z,B,w,y,A,λq=>(by have:d.ph=true:=q;rw[l] at this;cases this),C⟩
 ·show s.bD=rE (eI (b.aD.set i.length _));rw[r];exact h.bD
 ·show s.of t=mM (eI (b.aD.set i.length _)) t;rw[r];exact h.of t
 ·show s.first=qx (eI (b.aD.set i.length _));rw[r];exact h.first
def iy (o:Nat)(a:Nat×Nat×St)(q:Bk):Prop:=a.1=q.cy/\(a.1≠0->a.2.1=q.bW)/\(a.1=0->dr a.2.2 q/\a.2.2.opn=o)
theorem iy.gS {e n o:Nat}(a :St)(h:e≠0):iy o (e,n,a) (b.dk e n):=⟨rfl,λ_=>rfl,λq=>absurd q h⟩
variable {rec:St->ag->Nat×Nat×St} {recR:Bk->ag->Bk} {can:Bool} {fs:List aI} {o:Nat}
def xI (rec:St->ag->Nat×Nat×St)(recR:Bk->ag->Bk)(can:Bool)(o:Nat):Prop:=(can=false/\o=3)\/(can=true/\o<3/\∀s b t,dr s b->s.opn=o+1->iy (o+1) (rec s t) (recR b t))
theorem Oc (a:xI rec recR can o)(h:dr s b)(r:s.opn=o)(w:ag)(n:Nat):iy o (ic rec fs s w n) (jk recR can fs b w n):=by
 unfold ic jk;cases Pl.look fs w with
 |none=>exact iy.gS _ (by decide)
 |some p=>
  rcases a with⟨c,j⟩|⟨c,j,a⟩
  ·simp only;rw[TP (show s.opn=3 by omega),TP c];exact iy.gS _ (by decide)
  ·simp only;rw[TJ (show ¬s.opn=3 by omega),TJ (show ¬can=false by rw[c];decide)];by_cases g:s.inc=100
   ·rw[TP g,TP (by rw[<-h.inc];omega)];exact iy.gS _ (by decide)
   ·rw[TJ g,TJ (by have:=h.pE;rw[<-h.inc] at this⊢;omega)];have q:dr {s with inc:=s.inc+1,opn:=s.opn+1} {b with cj:=b.cj+1}:=⟨h.nm,h.rl,h.n,h.iP,by show s.inc+1=b.cj+1;rw[h.inc],by show b.cj+1<=100;have:=h.pE;rw[<-h.inc] at this⊢;omega,h.ph,h.ru,h.bD,h.of,h.first,h.er⟩;obtain⟨i,l,d⟩:=a _ _ p.aT q (by show s.opn+1=o+1;omega);exact⟨i,l,λe=>⟨(d e).1.rR _,by show _-1=o;rw[(d e).2];omega⟩⟩
theorem EI (i:xI rec recR can o)(n:Nat):∀(a:List ag) (s:St) (b:Bk),dr s b->s.opn=o->iy o (j6 rec fs n a s) (j5 recR can fs n a b)
 |[],s,b,h,d=>⟨h.er.1.symm,λe=>absurd rfl e,λ_=>⟨h,d⟩⟩
 |w::a,s,b,h,d=>by
  obtain⟨j,l,g⟩:=Oc (fs:=fs) i h d w n;unfold j6 j5;rw[TJ (show ¬b.cy≠0 from λe=>e h.er.1)];by_cases c:(ic rec fs s w n).1=0
  ·rw[TJ (λe=>e c)];exact EI i n a _ _ (g c).1 (g c).2
  ·rw[TP c];have:j5 recR can fs n a (jk recR can fs b w n)=jk recR can fs b w n:=by
    cases a with
    |nil=>rfl|cons x xs=>unfold j5;rw[TP (by rw[<-j];exact c)]
   rw[this];exact⟨j,l,g⟩
theorem Kk (g:xI rec recR can o)(h:dr s b)(d:s.opn=o)(c:Ln):iy o (kn rec fs s c) (lV recR can fs b c.right c.d'):=by
 unfold kn lV;rw[h.ya];by_cases a:(dd (nR b.aV) c.right).er=0
 ·rw[TJ (λe=>e a),TJ (λe=>e a)];exact EI g _ _ _ _ h d
 ·rw[TP a,TP a];exact iy.gS _ a
theorem N' (h:dr s b)(u:s.opn=o)(a:Ln):iy o ((fW s a).1,a.d',(fW s a).2.2) (fZ b a.left a.right a.d')/\((fW s a).1=0->tS (fZ b a.left a.right a.d') (fW s a).2.1 (decide ((fZ b a.left a.right a.d').cy=0)&& !(kb (fZ b a.left a.right a.d')).ph)):=by
 unfold fW fZ;rw[h.ya,h.ya];by_cases d:(dd (nR b.aV) a.left).er=0
 ·have i:¬(dd (nR b.aV) a.left).er≠0:=λe=>e d;rw[TJ i,TJ i];by_cases c:(dd (nR b.aV) a.right).er=0
  ·have j:¬(dd (nR b.aV) a.right).er≠0:=λe=>e c;rw[TJ j,TJ j];rw[M1];cases w:mN (bH (dd (nR b.aV) a.left).bE) (bH (dd (nR b.aV) a.right).bE) with
   |true=>rw[TP (show (!true)=false from rfl),TP (show true=true from rfl)];exact⟨iy.gS _ (Xp _),λe=>(by cases e)⟩
   |false=>
    rw[TJ (show ¬(!false)=false from Bool.noConfusion),TJ (show ¬false=true from Bool.noConfusion)];by_cases g:s.n=64
    ·rw[TP g,TP (by rw[<-h.n];omega)];exact⟨iy.gS _ (Xp _),λe=>(by cases e)⟩
    ·have p:b.aD.length<64:=by have:=h.iP;rw[<-h.n] at this⊢;omega
     rw[TJ g,TJ (by omega)];obtain⟨l,A,q⟩:=h.jz w (λx y=>K_ y) p;refine⟨⟨h.er.1.symm,λe=>absurd rfl e,λ_=>⟨l,q.trans u⟩⟩,λ_=> ?_⟩;obtain⟨e1,-⟩:=yY (b:={b with aD:=b.aD++[fC (bH (dd (nR b.aV) a.left).bE) (bH (dd (nR b.aV) a.right).bE)]}) rfl;rw[e1];show tS _ (bp _ _ _).1 _;rw[A];have z:b.cy=0:=h.er.1;cases r:(fC (bH (dd (nR b.aV) a.left).bE) (bH (dd (nR b.aV) a.right).bE)).ph with
     |true=>exact .inl ⟨by simp,rfl⟩
     |false=>exact .inr ⟨by simp[z],_,_,rfl,r,rfl⟩
  ·rw[TP c,TP c];exact⟨iy.gS _ c,λe=>absurd e c⟩
 ·rw[TP d,TP d];exact⟨iy.gS _ d,λe=>absurd e d⟩
theorem Ky (h:dr s b)(q:s.opn=o)(a:Ln){op:Option Nat}{x:Bool}(n:tS b op x):iy o ((fT s op a).1,a.d',(fT s op a).2) (if x=true then kH b a.right a.d' else b.dk 1 a.d')/\((fT s op a).1=0->tS (if x=true then kH b a.right a.d' else b.dk 1 a.d') op x):=by
 rcases n with⟨rfl,rfl⟩|⟨rfl,l,g,c,i,rfl⟩
 ·exact⟨iy.gS _ (Xp _),λe=>(by cases e)⟩
 ·rw[TP rfl];obtain⟨e1,e2⟩:=yY c;have er:s.aD[(dv l).length]?=some (iS g):=by rw[h.rl,c,p9,i,Uq ak];simp
  unfold fT kH;simp only[er];have j:((iS g).cs.length=0/\((iS g).tg.any λt=>(s.of t).any (kh s))=true)↔oq b=true:=h.Sk c;rw[e1,e2];by_cases d:oq b=true
  ·rw[TP (j.2 d),TP d];exact⟨iy.gS _ (Xp _),λe=>(by cases e)⟩
  ·rw[TJ (λe=>d (j.1 e)),TJ d];obtain⟨r,p⟩:=h.ej c i (a.right,a.d');exact⟨⟨h.er.1.symm,λe=>absurd rfl e,λ_=>⟨r,q⟩⟩,λ_=> .inr ⟨rfl,l,_,p,i,rfl⟩⟩
theorem CZ (h:dr s b)(g:s.opn=o)(a:Ln):iy o ((gW s a).1,a.d',(gW s a).2) (if a.cC=4 then {b with aV:=b.aV++[⟨a.left,a.right,false⟩]} else rA b a.left a.right a.d'):=by
 unfold gW;by_cases d:a.cC=4
 ·rw[TP d,TP d];exact⟨h.er.1.symm,λe=>absurd rfl e,λ_=>⟨h.name a.left a.right false,g⟩⟩
 ·rw[TJ d,TJ d,h.ya];unfold rA;by_cases c:(dd (nR b.aV) a.right).er=0
  ·rw[TJ (λe=>e c)];exact⟨c.trans h.er.1.symm,λe=>absurd c e,λ_=>⟨h.name a.left _ true,g⟩⟩
  ·rw[TP c];exact⟨rfl,λ_=>rfl,λe=>absurd e c⟩
theorem BX {xs:List (Nat×ag)}{x:Bool}(h:b.cy≠0):jj recR can fs xs b x=b:=by
 cases xs with
 |nil=>rfl|cons y a=>unfold jj;rw[TP h]
theorem wE (l:xI rec recR can o):∀(xs:List (Nat×ag)) (s:St) (b:Bk) (op:Option Nat) (x:Bool),dr s b->s.opn=o->tS b op x->iy o (iq rec fs (ed xs) s op) (jj recR can fs xs b x)
 |[],s,b,op,x,h,g,_=>⟨h.er.1.symm,λe=>absurd rfl e,λ_=>⟨h,g⟩⟩
 |(n,w)::xs,s,b,op,x,h,g,r=>by
  have z:=(ug w).2.2;have u:=Ns w;unfold jj fM ed;rw[TJ (show ¬b.cy≠0 from λe=>e h.er.1)];simp only;generalize B:br w=d at z u⊢;obtain⟨a,e⟩:=d;simp only at z u⊢;unfold rk;simp only;by_cases p:e=0
  ·subst p;have ge:((0:Nat)==0)=true:=rfl;simp only[ge,Vn,Vz];by_cases c:a.cC=0
   ·simp only[c,show ((0:Nat)==0)=true from rfl,Vn];exact wE l xs s b op x h g r
   ·have gk:(a.cC==0)=false:=by simpa using c
    simp only[gk,Uj,Vk];unfold iq;rw[TJ (show ¬((({a with d':=n}:Ln),0):Ln×Nat).2≠0 from λe=>e rfl)];unfold ew;simp only;have step:∀(d:Nat×Nat×Option Nat×St) (q:Bk) (y:Bool),iy o (d.1,d.2.1,d.2.2.2) q->(d.1=0->tS q d.2.2.1 y)->iy o (if d.1≠0 then(d.1,d.2.1,d.2.2.2) else iq rec fs (ed xs) d.2.2.2 d.2.2.1) (jj recR can fs xs q y):=λd q y j A=>by
     by_cases i:d.1=0
     ·rw[TJ (λe=>e i)];exact wE l xs _ _ _ _ (j.2.2 i).1 (j.2.2 i).2 (A i)
     ·rw[TP i,BX (by have:=j.1;simp only at this;rw[<-this];exact i)];exact j
    rcases(show a.cC=1\/a.cC=2\/a.cC=3\/a.cC=4\/a.cC=5 by omega) with c|c|c|c|c
    ·simp only[c,Vn];have:=Ky h g {a with d':=n} r;exact step (_,_,_,_) _ _ this.1 this.2
    ·simp only[c];exact step (_,_,_,_) _ _ (Kk l h g {a with d':=n}) (λ_=> .inl ⟨rfl,rfl⟩)
    ·simp only[c];have:=CZ h g {a with d':=n};rw[TJ (show ¬({a with d':=n}:Ln).cC=4 by show ¬a.cC=4;omega)] at this;simp only[c] at this;exact step (_,_,_,_) _ _ this (λ_=> .inl ⟨rfl,rfl⟩)
    ·simp only[c];have:=CZ h g {a with d':=n};rw[TP (show ({a with d':=n}:Ln).cC=4 from c)] at this;simp only[c] at this;exact step (_,_,_,_) _ _ this (λ_=> .inl ⟨rfl,rfl⟩)
    ·simp only[c];have:=N' h g {a with d':=n};exact step (_,_,_,_) _ _ this.1 this.2
  ·have ge:(e==0)=false:=by simpa using p
   simp only[ge,We,Uj,Vk];unfold iq;rw[TP (show ((({a with d':=n}:Ln),e):Ln×Nat).2≠0 from p)];have e1:e=1:=by omega
   subst e1;simp only;rw[BX (by show(1:Nat)≠0;decide)];exact iy.gS _ (by decide)
end
theorem FF (fs:List aI):∀(d:Nat) (s:St) (b:Bk) (t:ag),dr s b->s.opn+d=3->iy s.opn (iY fs d s t) (jP fs d b t)
 |0,s,b,t,h,c=>by unfold iY jP;exact wE (.inl ⟨rfl,by omega⟩) _ _ _ _ _ h rfl (.inl ⟨rfl,rfl⟩)|d+1,s,b,t,h,c=>by unfold iY jP;refine wE (.inr ⟨rfl,by omega,λa b' g e i=> ?_⟩) _ _ _ _ _ h rfl (.inl ⟨rfl,rfl⟩);rw[<-i];exact FF fs d a b' g e (by omega)
theorem DO (fs:List aI)(a:ag):(cI fs a).1=(eb fs a).cy/\((cI fs a).1≠0->(cI fs a).2.1=(eb fs a).bW)/\((cI fs a).1=0->dr (cI fs a).2.2 (eb fs a)):=by
 unfold cI eb;cases Pl.look fs a with
 |none=>exact⟨rfl,λ_=>rfl,λe=>(by cases e)⟩
 |some c=>obtain⟨g,d,h⟩:=FF fs 3 il lp c.aT SL rfl;exact⟨g,d,λe=>(h e).1⟩
theorem Al (c:UInt8):((c.toNat:Int)==37)=(c==37):=by
 by_cases h:c=37
 ·subst h;rfl
 ·have a:(c==37)=false:=by simpa using h
  rw[a,TQ];intro e;exact h (by rw[<-V6];exact Xi e)
theorem P5 (s:az)(k:Nat)(h:k<s.size):dP (s.data.toList.take (k+1))=dP (s.data.toList.take k)+if(s[k]'h==37)=true then 1 else 0:=by rw[qS s k h];unfold dP;rw[ZV,List.count_singleton]
theorem J9 (s:az)(w:ax)(B:s.size<=1073741824):
 Calls prog 152 #[.string s] w λe j=>e= .returned (.int .i64 (dP s.data.toList:Int))/\j =w:=by
 have q:=aB (Uf s);go_enter func152,ntmps152;go_wp2_with fail
 go_loopw [3,4] (λl y wr=>∃k:Nat,k<=s.size/\y= .int .i64 k/\l= .int .i64 (dP (s.data.toList.take k):Int)/\wr=w) (λ_ r _=>s.size-(intOf r).toNat)
 case atStart=>exact⟨0,TS _,rfl,rfl,rfl⟩
 case round=>
  obtain⟨k,z,rfl,rfl,n⟩:=hrel;subst n;have A:dP (s.data.toList.take k)<=k:=TT List.count_le_length (by rw[Um];omega);by_cases c:k<s.size
  ·have h:=aB (P5 s k c);have g:=aB (Al (s[k]'c));generalize dP (s.data.toList.take k)=i at*;cases a:(s[k]'c)==37 with
   |true=>
    have p:(((s[k]'c).toNat:Int)==37)=true:=g.u.trans a;have d:Hid (dP (s.data.toList.take (k+1))=i+1):=by show _=_;rw[h.u,a];rfl
    clear h g a;go_wp2_with fail
    go_roundw
    case rel=>exact⟨k+1,by omega,by go_num,by rw[d.u];go_num,trivial⟩
    case measure=>simp[intOf];omega
   |false=>
    have p:(((s[k]'c).toNat:Int)==37)=false:=g.u.trans a;have d:Hid (dP (s.data.toList.take (k+1))=i):=by show _=_;rw[h.u,a];rfl
    clear h g a;go_wp2_with fail
    go_roundw
    case rel=>exact⟨k+1,by omega,by go_num,by rw[d.u],trivial⟩
    case measure=>simp[intOf];omega
  ·have d:Hid (dP (s.data.toList.take k)=dP s.data.toList):=by
    show _=_;rw[Uh (by have:=q.u;omega)]
   generalize dP (s.data.toList.take k)=i at*;go_wp2_with fail
   go_ret;exact⟨by rw[<-d.u];rfl,rfl⟩
theorem DP:∀(a:ag) (k:Nat) (d:ag),(a.take k).contains 37=false->∀h:k<a.length,a[k]=37->cH a d=a.take k++d++a.drop (k+1)
 |[],_,_,_,h,_=>by cases h
 |c::j,0,d,_,_,i=>by have n :c=37:=i;unfold cH;rw[TP n];simp
 |c::j,k+1,d,g,h,i=>by
  rw[Xk,UL,UD] at g;have l:¬c=37:=λe=>by rw[e] at g;simp at g
  unfold cH;rw[TJ l,DP j k d g.2 (by simpa using h) (by simpa using i)];simp
theorem Eg:∀(d a:ag),d.contains 37=false->cH d a=d
 |[],_,_=>rfl
 |c::g,a,h=>by
  rw[UL,UD] at h;have i:¬c=37:=λe=>by rw[e] at h;simp at h
  unfold cH;rw[TJ i,Eg g a h.2]
theorem S3 (s a:az)(k:Nat):s.extract 0 k++a++s.extract (k+1) s.size=⟨(s.data.toList.take k++a.data.toList++s.data.toList.drop (k+1)).toArray⟩:=by rw[sm,sm,Uf,Us];apply ByteArray.ext;simp
theorem EY (s:az)(k:Nat)(h:k<s.size):(s.data.toList.take (k+1)).contains 37=((s.data.toList.take k).contains 37||(s[k]'h==37)):=by rw[qS s k h,List.contains_append];congr 1;rw[UL,YH,XD];exact BEq.comm
theorem BI (s g:az)(w:ax)(B:s.size<=1073741824)(C:g.size<=1073741824):
 Calls prog 153 #[.string s,.string g] w λe r=>e= .returned (.string ⟨(cH s.data.toList g.data.toList).toArray⟩)/\Below w.heap.size w r :=by
 have i:=aB (Uf s);go_enter func153,ntmps153;go_wp2_with fail
 go_loopw [5] (λz wr=>∃k:Nat,k<=s.size/\z= .int .i64 k/\Hid ((s.data.toList.take k).contains 37=false)/\wr=w) (λy _=>s.size-(intOf y).toNat)
 case atStart=>exact⟨0,TS _,rfl,rfl,rfl⟩
 case round=>
  obtain⟨k,D,rfl,j,p⟩:=hrel;subst p;by_cases a:k<s.size
  ·have l:=aB (EY s k a);have h:=aB (Al (s[k]'a));cases c:(s[k]'a)==37 with
   |true=>
    have q:(((s[k]'a).toNat:Int)==37)=true:=h.u.trans c;have n:s.data.toList[k]'(by have:=i.u;omega)=37:=(show s[k]'a=37 by simpa using c);have d:=aB (DP _ k g.data.toList j.u (by have:=i.u;omega) n);clear n;clear l h c;have A:(k:Int)+1<=(s.size:Int):=by omega
    go_wp2_with fail
    go_quiet (fail)
    go_wp2_with fail
    go_ret;exact⟨by rw[d.u,<-S3];rfl,Below.drewN (TF _ _) _⟩
   |false=>
    have q:(((s[k]'a).toNat:Int)==37)=false:=h.u.trans c;have d:Hid ((s.data.toList.take (k+1)).contains 37=false):=by show _=_;rw[l.u,c,j.u];rfl
    clear l h c;go_wp2_with fail
    go_roundw
    case rel=>exact⟨k+1,by omega,by go_num,d,trivial⟩
    case measure=>simp[intOf];omega
  ·have d:Hid (cH s.data.toList g.data.toList=s.data.toList):=aB (Eg _ _ (by
    have:=j.u;rwa [Uh (by have:=i.u;omega)] at this))
   go_wp2_with fail
   go_ret;exact⟨by rw[d.u];rfl,TF _ _⟩
theorem B6:∀(d:ag) (k:Nat),(d.take k).contains 37=false->∀h:k<d.length,d[k]=37->(Mk.bj 37 d).length=k
 |[],_,_,h,_=>by cases h
 |c::i,0,_,_,g=>by have p :c=37:=g;subst p;simp[Mk.bj]
 |c::i,k+1,a,h,g=>by
  rw[Xk,UL,UD] at a;have n:¬c=37:=λe=>by rw[e] at a;simp at a
  have l:(c==37)=false:=by simpa using n
  have j:=B6 i k a.2 (by simpa using h) (by simpa using g);unfold Mk.bj at j⊢;rw[U9,l];simpa using j
theorem yP:∀(a:ag),a.contains 37=true->(Mk.bj 37 a).length<a.length
 |[],h=>by cases h
 |c::g,h=>by
  unfold Mk.bj;rw[U9];cases d:c==37 with
  |true=>simp
  |false=>
   have i:((37:UInt8)==c)=false:=by rw[TQ] at d⊢;exact λe=>d e.symm
   rw[UL,i,VV] at h;have:=yP g h;unfold Mk.bj at this;simpa using this
theorem Mh (d:ag)(h:d.contains 37=true):d[(Mk.bj 37 d).length]'(yP d h)=37:=by
 induction d with
 |nil=>cases h
 |cons c g i=>
  cases a:c==37 with
  |true=>
   have:Mk.bj 37 (c::g)=[]:=by unfold Mk.bj;rw[U9,a];rfl
   simp only[this];simpa using a
  |false=>
   have j:((37:UInt8)==c)=false:=by rw[TQ] at a⊢;exact λe=>a e.symm
   have l:g.contains 37=true:=by rw[UL,j,VV] at h;exact h
   have:Mk.bj 37 (c::g)=c::Mk.bj 37 g:=by unfold Mk.bj;rw[U9,a];rfl
   simp only[this];simpa using i l
theorem KH (a s:az)(w:ax)(hp:a.size<=1073741824)(hs:s.size<=1073741824)(H:a.data.toList.contains 37=true):
 Calls prog 112 #[.string a,.string s] w λe z=>e= .returned (.string ⟨(fN a.data.toList s.data.toList).toArray⟩)/\Below w.heap.size w z :=by
 have S:=aB (Uf a);have ac:=aB (Uf s);have E:=yP _ H;rw[<-Uf] at E;have F:=aB (Mh _ H);have J:=aB (λk l p U=>B6 a.data.toList k l p U);have d:Hid (fN a.data.toList s.data.toList=if s.data.toList.length<a.data.toList.length then [] else if cH a.data.toList ((s.data.toList.drop (Mk.bj 37 a.data.toList).length).take (s.data.toList.length-a.data.toList.length+1))=s.data.toList then(s.data.toList.drop (Mk.bj 37 a.data.toList).length).take (s.data.toList.length-a.data.toList.length+1) else []):=rfl;rw[<-Uf s,<-Uf a] at d;generalize fN a.data.toList s.data.toList=q at*;go_enter func112,ntmps112;go_wp2_with fail
 go_loopw [5] (λV wr=>∃k:Nat,k<=(Mk.bj 37 a.data.toList).length/\V= .int .i64 k/\Hid ((a.data.toList.take k).contains 37=false)/\wr=w) (λaa _=>a.size-(intOf aa).toNat)
 case atStart=>exact⟨0,TS _,rfl,rfl,rfl⟩
 case round=>
  obtain⟨k,hk,rfl,B,M⟩:=hrel;subst M;have g:k<a.size:=by omega
  have y:=aB (EY a k g);have j:=aB (Al (a[k]'g));cases c:(a[k]'g)==37 with
  |false=>
   have P:(((a[k]'g).toNat:Int)==37)=false:=j.u.trans c;have R:Hid ((a.data.toList.take (k+1)).contains 37=false):=by show _=_;rw[y.u,c,B.u];rfl
   have ab:k≠(Mk.bj 37 a.data.toList).length:=λe=>by
    have l:=F.u;have p:(a[k]'g)=37:=by simp only[<-e] at l;exact l
    rw[p] at c;cases c
   clear y j c;go_wp2_with fail
   go_roundw
   case rel=>exact⟨k+1,by omega,by go_num,R,trivial⟩
   case measure=>simp[intOf];omega
  |true=>
   have P:(((a[k]'g).toNat:Int)==37)=true:=j.u.trans c;have G:(Mk.bj 37 a.data.toList).length=k:=J.u k B.u (by have:=S.u;omega) (show a[k]'g=37 by simpa using c);rw[G] at d;clear y j c F J G hk B E;by_cases r:s.size<a.size
   ·have i:Hid (q=[]):=by show _=_;rw[d.u,TP r]
    have Y:(s.size:Int)-(a.size:Int)+1<1:=by omega
    go_wp2_with fail
    go_ret;exact⟨by rw[i.u];rfl,TF _ _⟩
   ·obtain⟨n,K⟩:∃n,n=s.size-a.size+1:=⟨_,rfl⟩;rw[<-K] at d;have e1:(s.size:Int)-(a.size:Int)+1=(n:Int):=by omega
    have Y:¬(n:Int)<1:=by omega
    have t3:(k:Int)+(n:Int)<=(s.size:Int):=by omega
    have C:s.extract k (k+n)=⟨((s.data.toList.drop k).take n).toArray⟩:=by rw[sm,YL];congr 3;exact Vf k n
    have N:=aB C;have A:=aB (λW=>BI a (s.extract k (k+n)) W hp (by simp only[Xz];omega));have I:(s.extract k (k+n)).data.toList=(s.data.toList.drop k).take n:=by rw[C]
    rw[I] at A;have L:Hid (∀W,Calls prog 153 #[.string a,.string (s.extract k (k+n))] W λe z=>e= .returned (.string ⟨(cH a.data.toList ((s.data.toList.drop k).take n)).toArray⟩)/\Below W.heap.size W z):=A;clear A I C K;generalize cH a.data.toList ((s.data.toList.drop k).take n)=Q at*;by_cases h:Q=s.data.toList
    ·have i:Hid (q=(s.data.toList.drop k).take n):=by show _=_;rw[d.u,TJ r,TP h]
     have O:(Q==s.toList)=true:=by rw[UQ,h];simp
     clear h d;go_wp2_with fail
     refine(L.u _).mono ?_;rintro e Z ⟨rfl,D⟩;go_wp2_with fail
     go_ret;exact⟨by rw[i.u,<-N.u];rfl,D⟩
    ·have i:Hid (q=[]):=by show _=_;rw[d.u,TJ r,TJ h]
     have O:(Q==s.toList)=false:=by rw[UQ];simpa using h
     clear d;go_wp2_with fail
     refine(L.u _).mono ?_;rintro e Z ⟨rfl,D⟩;go_wp2_with fail
     go_ret;exact⟨by rw[i.u];rfl,D⟩
def e_ (W:ax)(v:ay)(xs:List ag):Prop:=∃a cap b o,v= .slice a xs.length cap/\(0<xs.length->a=some ⟨b,o,none⟩/\b<W.heap.size)/\na W b o xs
def la (W:ax)(v:ay)(xs:List Nat):Prop:=∃a cap b o,v= .slice a xs.length cap/\(0<xs.length->a=some ⟨b,o,none⟩/\b<W.heap.size)/\∀c (h:c<xs.length),W.cell? ⟨b,o+c,none⟩=some (.int .i64 (xs[c]:Int))
theorem e_.aE {W W' :ax}{v:ay}{xs:List ag}(h:e_ W v xs)(d:Below W.heap.size W W'):e_ W' v xs:=by obtain⟨a,cap,b,o,l,c,i⟩:=h;refine⟨a,cap,b,o,l,λe=>⟨(c e).1,T7 (c e).2 d.size⟩,λg j=> ?_⟩;exact(d.cell (p:=⟨b,o+g,none⟩) (c (by omega)).2).trans (i g j)
theorem la.aE {W W' :ax}{v:ay}{xs:List Nat}(h:la W v xs)(d:Below W.heap.size W W'):la W' v xs:=by obtain⟨a,cap,b,o,l,c,i⟩:=h;refine⟨a,cap,b,o,l,λe=>⟨(c e).1,T7 (c e).2 d.size⟩,λg j=> ?_⟩;exact(d.cell (p:=⟨b,o+g,none⟩) (c (by omega)).2).trans (i g j)
structure rH (W:ax)(b o:Nat)(r:Ru)(vt vn vs vl:ay):Prop where
 c0:W.cell? ⟨b,o,none⟩=some vt
 c1:W.cell? ⟨b,o+1,none⟩=some vn
 c2:W.cell? ⟨b,o+2,none⟩=some vs
 c3:W.cell? ⟨b,o+3,none⟩=some vl
 c4:W.cell? ⟨b,o+4,none⟩=some (.bool r.b_)
 c5:W.cell? ⟨b,o+5,none⟩=some (.bool r.ph)
 tg:e_ W vt r.tg
 nd:e_ W vn r.nd
 st:e_ W vs (r.cs.map (·.1))
 ln:la W vl (r.cs.map (·.2))
variable {r n u w:ay}
theorem rH.aE {W W' :ax}{b o:Nat}{vs:ay}(h:rH W b o d r n vs u)(c:b<W.heap.size)(a:Below W.heap.size W W'):rH W' b o d r n vs u:=⟨(a.cell (p:=⟨b,_,none⟩) c).trans h.c0,(a.cell (p:=⟨b,_,none⟩) c).trans h.c1,(a.cell (p:=⟨b,_,none⟩) c).trans h.c2,(a.cell (p:=⟨b,_,none⟩) c).trans h.c3,(a.cell (p:=⟨b,_,none⟩) c).trans h.c4,(a.cell (p:=⟨b,_,none⟩) c).trans h.c5,h.tg.aE a,h.nd.aE a,h.st.aE a,h.ln.aE a⟩
structure mh (W:ax)(bb:Nat)(fs:List aI)(b:Bk):Prop where
 lt:bb<W.heap.size
 aX:∃a cap b' o,W.cell? ⟨bb,0,none⟩=some (.slice a fs.length cap)/\(0<fs.length->a=some ⟨b',o,none⟩/\b' <W.heap.size)/\dA W b' o fs
 aV:∃vn,W.cell? ⟨bb,1,none⟩=some vn/\pN W vn b.aV
 aD:∃a cap b' o,W.cell? ⟨bb,2,none⟩=some (.slice a b.aD.length cap)/\(0<b.aD.length->a=some ⟨b',o,none⟩/\b' <W.heap.size)/\∀i (h:i<b.aD.length),∃vt vn vs vl,rH W b' (o+i*6) b.aD[i] vt vn vs vl
 cy:W.cell? ⟨bb,4,none⟩=some (.int .i64 (b.cy:Int))
 bW:W.cell? ⟨bb,5,none⟩=some (.int .i64 (b.bW:Int))
theorem mh.aE {W W' :ax}{bb:Nat}{fs:List aI}{b:Bk}(h:mh W bb fs b)(c:Below W.heap.size W W'):mh W' bb fs b:=by
 refine⟨T7 h.lt c.size,?_,?_,?_,(c.cell (p:=⟨bb,_,none⟩) h.lt).trans h.cy,(c.cell (p:=⟨bb,_,none⟩) h.lt).trans h.bW⟩
 ·obtain⟨a,cap,b',o,g,d,i⟩:=h.aX;exact⟨a,cap,b',o,(c.cell (p:=⟨bb,_,none⟩) h.lt).trans g,λe=>⟨(d e).1,T7 (d e).2 c.size⟩,λn j=>(i.aL c (d (by omega)).2) n j⟩
 ·obtain⟨l,g,d⟩:=h.aV;exact⟨l,(c.cell (p:=⟨bb,_,none⟩) h.lt).trans g,d.aE c⟩
 ·obtain⟨a,cap,b',o,g,d,i⟩:=h.aD;refine⟨a,cap,b',o,(c.cell (p:=⟨bb,_,none⟩) h.lt).trans g,λe=>⟨(d e).1,T7 (d e).2 c.size⟩,λn j=> ?_⟩;obtain⟨r,l,vs,q,u⟩:=i n j;exact⟨r,l,vs,q,u.aE (d (by omega)).2 c⟩
structure S9 (r:Ru):Prop where
 tg:r.tg.length<=2000
 nd:r.nd.length<=2000
 pP:∀x∈r.tg,x.length<=2000
 eV:∀x∈r.nd,x.length<=2000
 cs:r.cs.length<=110000000
 To:∀c∈r.cs,c.1.length<=100000000/\c.2<=1073741824
structure mi (b:Bk):Prop where
 gG:b.aD.length<=64
 aD:∀r∈b.aD,S9 r
 aV:AJ b.aV
 cj:b.cj<=100
 bW:b.bW<=1073741824
 cy:b.cy<=9
theorem e_.uP {W:ax}{v:ay}{xs:List ag}(h:e_ W v xs)(g:xs.length<=1073741824)(c:ag):∀W',Below W.heap.size W W' ->Calls prog 115 #[v,.string ⟨c.toArray⟩] W' λe d=>e= .returned (.bool (dO c xs))/\d =W' :=λW' j=>by obtain⟨a,cap,b,o,rfl,i,l⟩:=h.aE j;exact C_ xs c a cap b o W' (λe=>(i e).1) l g
theorem e_.iN {W:ax}{v:ay}{xs:List ag}(h:e_ W v xs):∃a cap,v= .slice a xs.length cap:=by obtain⟨a,cap,b,o,c,-⟩:=h;exact⟨a,cap,c⟩
theorem la.iN {W:ax}{v:ay}{xs:List Nat}(h:la W v xs):∃a cap,v= .slice a xs.length cap:=by obtain⟨a,cap,b,o,c,-⟩:=h;exact⟨a,cap,c⟩
theorem rH.iN {W:ax}{b o:Nat}(h:rH W b o d r n u w):∃j a l i e c g p,r= .slice j d.tg.length a/\n= .slice l d.nd.length i/\u= .slice e d.cs.length c/\w= .slice g d.cs.length p:=by obtain⟨j,a,A⟩:=h.tg.iN;obtain⟨l,i,z⟩:=h.nd.iN;obtain⟨e,c,y⟩:=h.st.iN;obtain⟨g,p,q⟩:=h.ln.iN;rw[TR] at y q;exact⟨j,a,l,i,e,c,g,p,A,z,y,q⟩
def im:Option Nat->Int
 |some a=>(a:Int)|none=> -1
def gI (o:Option Nat):ay:= .int .i64 (im o)
theorem GD {n:Nat}{p:Nat->Bool}(g:∀a,a<c->p a=false)(e:c<n)(h:p c=true):(List.range n).find? p=some c:=by rw[aag];exact⟨h,VE.2 e,λa d=>by rw[g a d];rfl⟩
theorem Hj {n:Nat}{d:Nat->Bool}(g:∀a,a<c->d a=false)(h:¬c<n):(List.range n).find? d=none:=by rw[Vm];intro a e;rw[g a (by have:=VE.1 e;omega)];decide
theorem gV {p:Nat->Bool}(d:∀a,a<c->p a=false)(g:p c=false):∀a,a<c+1->p a=false:=λa h=>by
 by_cases e:a=c
 ·rw[e];exact g
 ·exact d a (by omega)
theorem qe {b:Bk}(h:c<b.aD.length):b.aD.getD c cQ=b.aD[c]:=by rw[TO,TH h];rfl
theorem DY {W:ax}{bb:Nat}{fs:List aI}{b:Bk}(N:mh W bb fs b)(H:mi b)(name:ag)(k:Int):
 Calls prog 109 #[.pointer (some ⟨bb,0,none⟩),.string ⟨name.toArray⟩,.int .i64 k] W λe W'=>e= .returned (gI (fD b.aD name k))/\Below W.heap.size W W' :=by
 have HV:=aB N;have ae:=H.gG;have Z:=aB H.aD;clear N H;go_enter func109,ntmps109;go_wp2_with fail
 go_loopw [7] (λB wr=>∃c:Nat,B= .int .i64 c/\c<=b.aD.length/\Hid (∀y,y<c->(decide ((y:Int)≠k)&&eP name (b.aD.getD y cQ))=false)/\Hid (Below W.heap.size W wr)) (λB _=>b.aD.length-aS B)
 case atStart=>exact⟨0,rfl,TS _,λy hj=>(by omega),TF _ _⟩
 case round=>
  obtain⟨c,rfl,hi,i,D⟩:=hrel;have K:=HV.u.aE D.u;have ac:=K.lt;obtain⟨a,cap,rb,ro,c2,A,F⟩:=K.aD;by_cases w:c<b.aD.length
  ·obtain⟨rfl,ad⟩:=A (by omega);obtain⟨vt,vn,vs,vl,Q⟩:=F c w;have P:=Z.u _ (TV w);have J:=qe w;generalize b.aD[c]=d at*;obtain⟨a1,k1,a2,k2,a3,S,U,k4,rfl,rfl,rfl,rfl⟩:=Q.iN;obtain⟨d0,d1,d2,d3,G,M,L,ab,aa,V⟩:=Q;have Y:(c:Int)<(b.aD.length:Int):=by omega
   have C:=(TF wr.heap.size wr).alloc ak (.cells #[.slice a1 d.tg.length k1,.slice a2 d.nd.length k2,.slice a3 d.cs.length S,.slice U d.cs.length k4,.bool d.b_,.bool d.ph] 147);have j:=aB (L.uP (by have:=P.tg;omega) name _ C);have h:=aB (D.u.tr C);have l:Hid (∀q,(decide ((c:Int)≠k)&&eP name d)=q->(decide ((c:Int)≠k)&&eP name (b.aD.getD c cQ))=q):=λq hq=>by rw[J];exact hq
   clear J F A C L ab V aa;by_cases E:(c:Int)=k
   ·subst E;have R:((c:Int)==(c:Int))=true:=by simp
    have g:Hid ((decide ((c:Int)≠(c:Int))&&eP name d)=false):=by show _=_;rw[UA (λe=>e rfl)];rfl
    go_wp2_with (first|(go_at_call 115;refine j.u.mono ?_;rintro e r ⟨rfl,rfl⟩;skip)|fail)
    first
     |exact⟨⟨c+1,by go_num,by omega,aB (gV i.u (l.u _ g.u)),h⟩,by simp only[aS];omega⟩
     |(go_roundw;exact⟨c+1,by go_num,by omega,aB (gV i.u (l.u _ g.u)),h⟩;simp only[aS];omega)
   ·have R:((c:Int)==k)=false:=by rw[TQ];exact E
    have g:Hid ((decide ((c:Int)≠k)&&eP name d)=(dO name d.tg&&(!d.b_&&(!d.ph&&decide (0<d.cs.length))))):=by show _=_;rw[Uz E];rfl
    cases n:dO name d.tg with
    |false=>
     rw[n,We] at g;go_wp2_with (first|(go_at_call 115;refine j.u.mono ?_;rintro e r ⟨rfl,rfl⟩;rw[n])|fail)
     first
      |exact⟨⟨c+1,by go_num,by omega,aB (gV i.u (l.u _ g.u)),h⟩,by simp only[aS];omega⟩
      |(go_roundw;exact⟨c+1,by go_num,by omega,aB (gV i.u (l.u _ g.u)),h⟩;simp only[aS];omega)
    |true=>
     cases p:d.b_ with
     |true=>
      rw[n,p,Vz,aac,We] at g;rw[p] at G j h;go_wp2_with (first|(go_at_call 115;refine j.u.mono ?_;rintro e r ⟨rfl,rfl⟩;rw[n])|fail)
      first
       |exact⟨⟨c+1,by go_num,by omega,aB (gV i.u (l.u _ g.u)),h⟩,by simp only[aS];omega⟩
       |(go_roundw;exact⟨c+1,by go_num,by omega,aB (gV i.u (l.u _ g.u)),h⟩;simp only[aS];omega)
     |false=>
      cases z:d.ph with
      |true=>
       rw[n,p,z,Vz,XS,Vz,aac,We] at g;rw[p] at G j h;rw[z] at M j h;go_wp2_with (first|(go_at_call 115;refine j.u.mono ?_;rintro e r ⟨rfl,rfl⟩;rw[n])|fail)
       first
        |exact⟨⟨c+1,by go_num,by omega,aB (gV i.u (l.u _ g.u)),h⟩,by simp only[aS];omega⟩
        |(go_roundw;exact⟨c+1,by go_num,by omega,aB (gV i.u (l.u _ g.u)),h⟩;simp only[aS];omega)
      |false=>
       rw[n,p,z,Vz,XS,Vz,Vz] at g;rw[p] at G j h;rw[z] at M j h;have af:=P.cs;by_cases O:0<d.cs.length
       ·rw[Uz O] at g;have t2:(0:Int)<(d.cs.length:Int):=by omega
        have I:Hid (gI (fD b.aD name k)= .int .i64 (c:Int)):=by show _=_;unfold fD;rw[GD i.u w (l.u _ g.u)];rfl
        go_wp2_with (first|(go_at_call 115;refine j.u.mono ?_;rintro e r ⟨rfl,rfl⟩;rw[n])|fail)
        go_ret;exact⟨by rw[I.u];rfl,h.u⟩
       ·rw[UA O] at g;have t2:¬(0:Int)<(d.cs.length:Int):=by omega
        go_wp2_with (first|(go_at_call 115;refine j.u.mono ?_;rintro e r ⟨rfl,rfl⟩;rw[n])|fail)
        first
         |exact⟨⟨c+1,by go_num,by omega,aB (gV i.u (l.u _ g.u)),h⟩,by simp only[aS];omega⟩
         |(go_roundw;exact⟨c+1,by go_num,by omega,aB (gV i.u (l.u _ g.u)),h⟩;simp only[aS];omega)
  ·have Y:¬(c:Int)<(b.aD.length:Int):=by omega
   have I:Hid (gI (fD b.aD name k)= .int .i64 (-1)):=by show _=_;unfold fD;rw[Hj i.u w];rfl
   clear F A;go_wp2_with fail
   go_ret;exact⟨by rw[I.u];rfl,D.u⟩
theorem Gi {b:Bk}{p:Ru->Bool}(d:c<b.aD.length)(a:p b.aD[c]=true):b.aD.any p=true:=VD.2 ⟨_,TV d,a⟩
variable {h:Ru->Bool}
theorem Gh {b:Bk}(e:∀a,a<c->h (b.aD.getD a cQ)=false)(j:¬c<b.aD.length):b.aD.any h=false:=by rw[VG];intro i g;obtain⟨a,d,rfl⟩:=U8 g;have:=e a (by omega);rw[qe d] at this;rw[this];decide
theorem Ol {b:Bk}(g:∀a,a<c->h (b.aD.getD a cQ)=false)(e:c<b.aD.length)(i:h b.aD[c]=true):b.aD.find? h=some b.aD[c]:=by rw[WC];refine⟨i,c,e,rfl,λa d=> ?_⟩;have:=g a d;rw[qe (by omega)] at this;rw[this];rfl
theorem NC {b:Bk}(e:∀a,a<c->h (b.aD.getD a cQ)=false)(j:¬c<b.aD.length):b.aD.find? h=none:=by rw[Vm];intro i g;obtain⟨a,d,rfl⟩:=U8 g;have:=e a (by omega);rw[qe d] at this;rw[this];decide
theorem Dp (h:0<a.length):a.headD []=a[0]:=by cases a with|nil=>cases h|cons y c=>rfl
def pg (b:Bk):ag:=((b.aD.find? λa=> !a.b_&& !a.ph).map (·.tg.headD [])).getD []
theorem Fo {W:ax}{bb:Nat}{fs:List aI}{b:Bk}(H:mh W bb fs b)(C:mi b)(name:ag):
 Calls prog 111 #[.pointer (some ⟨bb,0,none⟩),.string ⟨name.toArray⟩] W λe W'=>e= .returned (.bool (jT b name))/\W' =W:=by
 have M:=aB H;have ac:=C.gG;have R:=aB C.aD;clear H C;go_enter func111,ntmps111;go_wp2_with fail
 go_loopw [5] (λz wr=>∃c:Nat,z= .int .i64 c/\c<=b.aD.length/\Hid (∀d,d<c->(de name) (b.aD.getD d cQ)=false)/\wr=W) (λz _=>b.aD.length-aS z)
 case atStart=>exact⟨0,rfl,TS _,λd hj=>(by omega),rfl⟩
 case round=>
  obtain⟨c,rfl,hi,j,N⟩:=hrel;subst N;have aa:=M.u.lt;obtain⟨a,cap,rb,ro,c2,y,B⟩:=M.u.aD;by_cases p:c<b.aD.length
  ·obtain⟨rfl,ab⟩:=y (by omega);obtain⟨vt,vn,vs,vl,L⟩:=B c p;have U:=R.u _ (TV p);have E:=qe p;have Q:Hid ((de name) b.aD[c]=true->jT b name=true):=λh=>Gi p h;generalize b.aD[c]=g at*;obtain⟨a1,k1,a2,k2,a3,k3,a4,k4,rfl,rfl,rfl,rfl⟩:=L.iN;obtain⟨d0,d1,Z,d3,K,G,F,Y,S,O⟩:=L;have P:(c:Int)<(b.aD.length:Int):=by omega
   have r:=aB (F.uP (by have:=U.tg;omega) name _ (TF _ _));have l:Hid (∀q,(de name) g=q->(de name) (b.aD.getD c cQ)=q):=λq V=>by rw[E];exact V
   clear E B y F Y O S;cases w:dO name g.tg with
   |false=>
    have i:=aB ((show (de name) g=false by simp[de, *]));go_wp2_with (first|(go_at_call 115;refine r.u.mono ?_;rintro e A ⟨rfl,rfl⟩;rw[w])|fail)
    first
     |exact⟨⟨c+1,by go_num,by omega,aB (gV (p:=λd=>(de name) (b.aD.getD d cQ)) j.u (l.u _ i.u)),by trivial⟩,by simp only[aS];omega⟩
     |(go_roundw;exact⟨c+1,by go_num,by omega,aB (gV (p:=λd=>(de name) (b.aD.getD d cQ)) j.u (l.u _ i.u)),by trivial⟩;simp only[aS];omega)
   |true=>
    cases J:g.b_ with
    |true=>
     rw[J] at K;have i:=aB ((show (de name) g=false by simp[de, *]));go_wp2_with (first|(go_at_call 115;refine r.u.mono ?_;rintro e A ⟨rfl,rfl⟩;rw[w])|fail)
     first
      |exact⟨⟨c+1,by go_num,by omega,aB (gV (p:=λd=>(de name) (b.aD.getD d cQ)) j.u (l.u _ i.u)),by trivial⟩,by simp only[aS];omega⟩
      |(go_roundw;exact⟨c+1,by go_num,by omega,aB (gV (p:=λd=>(de name) (b.aD.getD d cQ)) j.u (l.u _ i.u)),by trivial⟩;simp only[aS];omega)
    |false=>
     rw[J] at K;cases I:g.ph with
     |true=>
      rw[I] at G;have i:=aB ((show (de name) g=false by simp[de, *]));go_wp2_with (first|(go_at_call 115;refine r.u.mono ?_;rintro e A ⟨rfl,rfl⟩;rw[w])|fail)
      first
       |exact⟨⟨c+1,by go_num,by omega,aB (gV (p:=λd=>(de name) (b.aD.getD d cQ)) j.u (l.u _ i.u)),by trivial⟩,by simp only[aS];omega⟩
       |(go_roundw;exact⟨c+1,by go_num,by omega,aB (gV (p:=λd=>(de name) (b.aD.getD d cQ)) j.u (l.u _ i.u)),by trivial⟩;simp only[aS];omega)
     |false=>
      rw[I] at G;have D:=aB (Q.u ((show (de name) g=true by simp[de, *])));go_wp2_with (first|(go_at_call 115;refine r.u.mono ?_;rintro e A ⟨rfl,rfl⟩;rw[w])|fail)
      go_ret;exact⟨by rw[D.u];rfl,rfl⟩
  ·have P:¬(c:Int)<(b.aD.length:Int):=by omega
   have D:Hid (jT b name=false):=aB (Gh j.u p);clear B y;go_wp2_with fail
   go_ret;exact⟨by rw[D.u];rfl,rfl⟩
theorem Md {W:ax}{bb:Nat}{fs:List aI}{b:Bk}(F:mh W bb fs b)(B:mi b)(name:ag):
 Calls prog 110 #[.pointer (some ⟨bb,0,none⟩),.string ⟨name.toArray⟩] W λe W'=>e= .returned (.bool (ft b name))/\W' =W:=by
 have K:=aB F;have ab:=B.gG;have Q:=aB B.aD;clear F B;go_enter func110,ntmps110;go_wp2_with fail
 go_loopw [5] (λw wr=>∃d:Nat,w= .int .i64 d/\d<=b.aD.length/\Hid (∀g,g<d->(λc=>dO name c.nd&&c.ph) (b.aD.getD g cQ)=false)/\wr=W) (λw _=>b.aD.length-aS w)
 case atStart=>exact⟨0,rfl,TS _,λg hj=>(by omega),rfl⟩
 case round=>
  obtain⟨d,rfl,hi,l,M⟩:=hrel;subst M;have Y:=K.u.lt;obtain⟨a,cap,rb,ro,c2,r,A⟩:=K.u.aD;by_cases j:d<b.aD.length
  ·obtain⟨rfl,aa⟩:=r (by omega);obtain⟨vt,vn,Z,vl,J⟩:=A d j;have S:=Q.u _ (TV j);have D:=qe j;have P:Hid ((λc=>dO name c.nd&&c.ph) b.aD[d]=true->ft b name=true):=λh=>Gi (p:=λc=>dO name c.nd&&c.ph) j h;generalize b.aD[d]=c at*;obtain⟨a1,k1,a2,k2,a3,k3,a4,k4,rfl,rfl,rfl,rfl⟩:=J.iN;obtain⟨d0,d1,V,d3,d4,E,L,I,R,N⟩:=J;have O:(d:Int)<(b.aD.length:Int):=by omega
   have y:=aB (I.uP (by have:=S.nd;omega) name _ (TF _ _));have p:Hid (∀q,(λc=>dO name c.nd&&c.ph) c=q->(λc=>dO name c.nd&&c.ph) (b.aD.getD d cQ)=q):=λq U=>by rw[D];exact U
   clear D A r L I N R;cases z:dO name c.nd with
   |false=>
    have i:=aB ((show (λc=>dO name c.nd&&c.ph) c=false by simp[*]));go_wp2_with (first|(go_at_call 115;refine y.u.mono ?_;rintro e G ⟨rfl,rfl⟩;rw[z])|fail)
    first
     |exact⟨⟨d+1,by go_num,by omega,aB (gV (p:=λg=>(λc=>dO name c.nd&&c.ph) (b.aD.getD g cQ)) l.u (p.u _ i.u)),by trivial⟩,by simp only[aS];omega⟩
     |(go_roundw;exact⟨d+1,by go_num,by omega,aB (gV (p:=λg=>(λc=>dO name c.nd&&c.ph) (b.aD.getD g cQ)) l.u (p.u _ i.u)),by trivial⟩;simp only[aS];omega)
   |true=>
    cases H:c.ph with
    |false=>
     rw[H] at E;have i:=aB ((show (λc=>dO name c.nd&&c.ph) c=false by simp[*]));go_wp2_with (first|(go_at_call 115;refine y.u.mono ?_;rintro e G ⟨rfl,rfl⟩;rw[z])|fail)
     first
      |exact⟨⟨d+1,by go_num,by omega,aB (gV (p:=λg=>(λc=>dO name c.nd&&c.ph) (b.aD.getD g cQ)) l.u (p.u _ i.u)),by trivial⟩,by simp only[aS];omega⟩
      |(go_roundw;exact⟨d+1,by go_num,by omega,aB (gV (p:=λg=>(λc=>dO name c.nd&&c.ph) (b.aD.getD g cQ)) l.u (p.u _ i.u)),by trivial⟩;simp only[aS];omega)
    |true=>
     rw[H] at E;have C:=aB (P.u ((show (λc=>dO name c.nd&&c.ph) c=true by simp[*])));go_wp2_with (first|(go_at_call 115;refine y.u.mono ?_;rintro e G ⟨rfl,rfl⟩;rw[z])|fail)
     go_ret;exact⟨by rw[C.u];rfl,rfl⟩
  ·have O:¬(d:Int)<(b.aD.length:Int):=by omega
   have C:Hid (ft b name=false):=aB (Gh l.u j);clear A r;go_wp2_with fail
   go_ret;exact⟨by rw[C.u];rfl,rfl⟩
theorem sH {N:ag->Nv}{g:UInt8->Option ag}:∀(f:Nat) (m:List ag) (k:Nat) (a t:ag) (c:Er),dU N g f m k a t=some c->c.er<=9
 |0,_,_,_,_,_,h=>by cases h
 |f+1,m,k,a,t,c,h=>by
  rw[dU] at h;split at h
  ·cases h;unfold gC;split<;>simp
  ·split at h
   ·cases h;simp
   ·split at h
    ·exact sH f _ _ _ _ _ h
    ·split at h
     ·split at h
      ·cases h;simp
      ·split at h
       ·cases h;simp
       ·split at h
        ·split at h
         ·cases h;simp
         ·split at h
          ·cases h
          ·rename_i q d;split at h
           ·exact sH f _ _ _ _ _ h
           ·have e:=sH f _ _ _ _ _ d;cases h;exact e
        ·exact sH f _ _ _ _ _ h
     ·split at h
      ·cases h;simp
      ·exact sH f _ _ _ _ _ h
theorem np (N:ag->Nv)(t:ag):(dd N t).bE.length<=2000/\(dd N t).er<=9:=by
 unfold dd;split
 ·next h=>obtain⟨f,a⟩:=h.choose_spec;exact⟨p_ f _ _ _ _ _ a,sH f _ _ _ _ _ a⟩
 ·exact⟨by simp,by simp⟩
theorem M_ (L:List Rn)(x:Rn):eT (L++[x]) []=eT L []+if x.iZ=true then 0 else x.aT.length:=by
 induction L with
 |nil=>show eT [x] []=_;unfold eT eT;simp
 |cons y c a=>rw[UE];unfold eT;rw[a];omega
def fP (a:List ag):Nat:=(a.map λx=>x.length+1).sum
theorem mB (x:ag)(a:List ag):fP (x::a)=x.length+1+fP a:=by unfold fP;rw[Ug,XG]
theorem sC:∀a u:List ag,fP (a++u)=fP a+fP u
 |[],u=>by show fP u=0+fP u;omega
 |x::c,u=>by rw[UE,mB,mB,sC c u];omega
theorem Di:∀(u:List ag) (x:ag),x∈u->fP u=x.length+1+fP (u.erase x)
 |y::a,x,h=>by
  by_cases e:y=x
  ·subst e;rw[aa5,mB]
  ·have c:x∈a:=(Ue.1 h).resolve_left (λq=>e q.symm);rw[aa6 (by simpa using e),mB,mB,Di a x c];omega
theorem zz:∀(a u:List ag),a.Nodup->(∀x∈a,x∈u)->fP a<=fP u
 |[],_,_,_=>TS _
 |x::g,u,c,h=>by rw[Wv] at c;have i:=h x (TY ..);have:=zz g (u.erase x) c.2 λy d=>(XL (λ(e:y=x)=>c.1 (by rw[<-e];exact d))).2 (h y (TX _ d));rw[mB,Di u x i];omega
theorem D3:∀c:List ag,([32].intercalate c).length<=fP c
 |[]=>TS _
 |[x]=>by rw[mB];simp[List.intercalate];omega
 |x::y::a=>by
  have d:=D3 (y::a);have e:([32].intercalate (x::y::a):ag)=x++[32]++[32].intercalate (y::a):=by simp[List.intercalate,List.intersperse]
  rw[e,mB];simp only[TE,T6];omega
theorem um {α:Type}(f:α->List ag)(k:Nat):∀a:List α,(∀x∈a,fP (f x)<=k)->fP (a.flatMap f)<=a.length*k
 |[],_=>TS _
 |x::c,h=>by have g:=h x (TY ..);have e:=um f k c λy d=>h y (TX _ d);rw[Ud,sC,TK,VO];omega
theorem vZ:∀(f:Nat) (a t:ag),t.length<=f->fP (eB a t)<=a.length+t.length+1
 |0,a,t,h=>by
  have:t=[]:=UH.1 (by omega);subst this;unfold eB;split
  ·exact TS _
  ·rw[mB];show _+0<=_;simp
 |f+1,a,[],h=>vZ 0 a [] ak
 |f+1,a,c::t,h=>by
  have d:t.length<=f:=by simpa using h
  rw[eB];split
  ·have:=vZ f [] t d;split
   ·simp only[TK,T1] at*;omega
   ·rw[mB];simp only[TK,T1] at*;omega
  ·have:=vZ f (a++[c]) t d;simp only[TE,TK,T1] at*;omega
structure ik (T:Nat)(b:Bk)(k:Nat):Prop where
 gG:b.aD.length<=64
 ru:∀r∈b.aD,r.tg.length<=2000/\r.nd.length<=2000/\(∀x∈r.tg,x.length<=2000)/\(∀x∈r.nd,x.length<=2000)/\r.cs.length<=k/\(∀c∈r.cs,c.1.length<=T/\c.2<=T+1)/\fP r.tg<=2001/\fP r.nd<=2001
 nl:b.aV.length<=k
 nf:∀x∈b.aV,x.iZ=true->x.aT.length<=2000
 nt:∀x∈b.aV,x.aT.length<=T+2000
 ns:eT b.aV []<=k
 cj:b.cj<=100
 bW:b.bW<=T+1
 cy:b.cy<=9
def dW (T:Nat)(b:Bk)(k:Nat)(b' :Bk)(add:Nat):Prop:=b.cj<=b'.cj/\∃a,ik T b' a /\a <=k+add+(b'.cj-b.cj)*(T+1)
section
variable {T:Nat} {b b' b'' :Bk} {k:Nat}
theorem ik.dk (h:ik T b k){e n:Nat}(a:e<=9)(c:n<=T+1):ik T (b.dk e n) k:=⟨h.gG,h.ru,h.nl,h.nf,h.nt,h.ns,h.cj,c,a⟩
theorem dW.refl (h:ik T b k)(add:Nat):dW T b k b add:=⟨TD _,k,h,by omega⟩
theorem dW.of {add:Nat}(h:ik T b' (k+add))(a:b'.cj=b.cj):dW T b k b' add:=⟨by omega,k+add,h,by omega⟩
theorem dW.trans (h:dW T b k b' c)(j:∀a,ik T b' a ->dW T b' a b'' q):dW T b k b'' (c+q):=by
 obtain⟨n,d,i,p⟩:=h;obtain⟨l,e,g,r⟩:=j d i;refine⟨by omega,e,g,?_⟩;have:b''.cj-b.cj=(b''.cj-b'.cj)+(b'.cj-b.cj):=by omega
 rw[this,ZW];omega
theorem dW.le (h:dW T b k b' c)(g:c<=q):dW T b k b' q:=by obtain⟨d,a,e,i⟩:=h;exact⟨d,a,e,by omega⟩
theorem ux {t:ag}(h:t.length<=2000):(bH t).length<=2000/\(∀x∈bH t,x.length<=2000)/\fP (bH t)<=2001:=⟨TT (qQ t).1 h,λx a=>TT ((qQ t).2 x a) h,by have:=vZ t.length [] t ak;unfold bH;simp only[T1] at this;omega⟩
theorem Hc (h:ik T b k)(g e:ag){n:Nat}(d:n<=T+1):dW T b k (fZ b g e n) 0:=by
 unfold fZ;split
 ·exact dW.of (h.dk (np _ _).2 d) rfl
 ·split
  ·exact dW.of (h.dk (np _ _).2 d) rfl
  ·split
   ·exact dW.of (h.dk (by decide) d) rfl
   ·split
    ·exact dW.of (h.dk (by decide) d) rfl
    ·rename_i y;refine dW.of (add:=0) ⟨?_,λq a=> ?_,h.nl,h.nf,h.nt,h.ns,h.cj,h.bW,h.cy⟩ rfl
     ·show(b.aD++[_]).length<=64;rw[TE,T6];omega
     ·rcases T4.1 a with a|a
      ·exact h.ru q a
      ·rw[TL.1 a];obtain⟨l,p,w⟩:=ux (np (nR b.aV) g).1;obtain⟨r,i,j⟩:=ux (np (nR b.aV) e).1;exact⟨l,r,p,i,TS _,λc u=>(by cases u),w,j⟩
theorem LK (h:ik T b k){c:ag}{n:Nat}(z:c.length<=T)(r:n<=T+1):dW T b k (kH b c n) 1:=by
 unfold kH;split
 ·exact(dW.of (add:=0) (h.dk (by decide) r) rfl).le (by omega)
 ·have D:∀q,q∈b.aD->q.cs.length<=k:=λq e=>(h.ru q e).2.2.2.2.1;refine dW.of (add:=1) ⟨by show(b.aD.set _ _).length<=64;rw[UB];exact h.gG,λq e=> ?_,Xd h.nl,h.nf,h.nt,Xd h.ns,h.cj,h.bW,h.cy⟩ rfl;rcases VK e with e|e
  ·obtain⟨w,j,l,u,A,i⟩:=h.ru q e;exact⟨w,j,l,u,by omega,i⟩
  ·rw[e];by_cases g:kb b∈b.aD
   ·obtain⟨w,j,l,u,A,i⟩:=h.ru _ g;refine⟨w,j,l,u,by simp only[TE,T6];omega,λd a=> ?_,i.2⟩;rcases T4.1 a with a|a
    ·exact i.1 d a
    ·rw[TL.1 a];exact⟨z,r⟩
   ·have B:kb b=cQ:=by
     unfold kb at g⊢;rw[TO] at g⊢;cases y:b.aD[b.aD.length-1]? with
     |none=>rfl|some C=>rw[y] at g;exact absurd (Vw y) g
    rw[B];refine⟨TS _,TS _,λx p=>(by cases p),λx p=>(by cases p),by simp[cQ],λd a=> ?_,TS _,TS _⟩;have:d=(c,n):=by simpa [cQ] using a
    rw[this];exact⟨z,r⟩
theorem zX (h:ik T b k){x:Rn}(l:x.iZ=true->x.aT.length<=2000)(g:x.aT.length<=T+2000){add:Nat}(A:(if x.iZ=true then 0 else x.aT.length)+1<=add)(e n:Nat)(w:e<=9)(r:n<=T+1):dW T b k ⟨b.aV++[x],b.aD,b.cj,e,n⟩ add:=by
 refine dW.of ⟨h.gG,λc p=> ?_,?_,λy a=> ?_,λy a=> ?_,?_,h.cj,r,w⟩ rfl
 ·obtain⟨j,d,q,i,z,u⟩:=h.ru c p;exact⟨j,d,q,i,by omega,u⟩
 ·have:=h.nl;show(b.aV++[x]).length<=_;rw[TE,T6];omega
 ·rcases T4.1 a with a|a
  ·exact h.nf y a
  ·rw[TL.1 a];exact l
 ·rcases T4.1 a with a|a
  ·exact h.nt y a
  ·rw[TL.1 a];exact g
 ·show eT (b.aV++[x]) []<=_;rw[M_];have:=h.ns;omega
variable {rec:Bk->ag->Bk} {can:Bool} {fs:List aI}
def px (T:Nat)(rec:Bk->ag->Bk):Prop:=∀b k t,t.length<=T->ik T b k->dW T b k (rec b t) (T+1)
theorem Ga (p:px T rec)(i:∀u a,Pl.look fs u=some a->a.aT.length<=T)(h:ik T b k)(w:ag){n:Nat}(c:n<=T+1):dW T b k (jk rec can fs b w n) 0:=by
 unfold jk;cases l:Pl.look fs w with
 |none=>exact dW.of (h.dk (by decide) c) rfl
 |some a=>
  simp only;split
  ·exact dW.of (h.dk (by decide) c) rfl
  ·split
   ·exact dW.of (h.dk (by decide) c) rfl
   ·rename_i z;have r:ik T {b with cj:=b.cj+1} k:=⟨h.gG,h.ru,h.nl,h.nf,h.nt,h.ns,by show b.cj+1<=100;omega,h.bW,h.cy⟩;obtain⟨g,d,j,q⟩:=p _ k a.aT (i w a l) r;refine⟨by have:b.cj+1<=_:=g;omega,d,j,?_⟩;have y :b.cj+1<=(rec {b with cj:=b.cj+1} a.aT).cj:=g;have e:(rec {b with cj:=b.cj+1} a.aT).cj-b.cj=((rec {b with cj:=b.cj+1} a.aT).cj-(b.cj+1))+1:=by omega
    rw[e,ZW,Nat.one_mul];have A :d<=k+(T+1)+((rec {b with cj:=b.cj+1} a.aT).cj-(b.cj+1))*(T+1):=q;omega
theorem Fe (e:px T rec)(c:∀j d,Pl.look fs j=some d->d.aT.length<=T){n:Nat}(g:n<=T+1):∀(a:List ag) (b:Bk) (k:Nat),ik T b k->dW T b k (j5 rec can fs n a b) 0
 |[],b,k,h=>dW.refl h 0
 |w::a,b,k,h=>by
  unfold j5;split
  ·exact dW.refl h 0
  ·exact(Ga e c h w g).trans λl i=>Fe e c g a _ l i
theorem G9 (i:px T rec)(d:∀j c,Pl.look fs j=some c->c.aT.length<=T)(h:ik T b k)(op:Bool){x:Nat×ag}(p:x.2.length<=T)(a:x.1<=T+1):dW T b k (fM rec can fs b op x).2 (x.2.length+1):=by
 obtain⟨l,n,-⟩:=ug x.2;unfold fM;split
 ·exact dW.refl h _
 ·split
  ·simp only;split
   ·exact(LK h (by omega) a).le (by omega)
   ·exact(dW.of (add:=0) (h.dk (by decide) a) rfl).le (by omega)
  ·split
   ·show dW T b k (lV rec can fs b _ _) _;unfold lV;split
    ·exact(dW.of (add:=0) (h.dk (np _ _).2 a) rfl).le (by omega)
    ·exact(Fe i d a _ _ _ h).le (by omega)
   ·split
    ·exact zX h (λe=>by cases e) (by show(br x.2).1.right.length<=T+2000;omega) (by show(if false=true then 0 else(br x.2).1.right.length)+1<=_;rw[TJ (by decide)];omega) _ _ h.cy h.bW
    ·split
     ·show dW T b k (rA b _ _ _) _;unfold rA;split
      ·exact zX h (λ_=>TS _) (TS _) (by show(if true=true then 0 else _)+1<=_;rw[TP rfl];omega) _ _ (np _ _).2 a
      ·have g:=(np (nR b.aV) (br x.2).1.right).1;exact zX h (λ_=>g) (by show(dd (nR b.aV) (br x.2).1.right).bE.length<=T+2000;omega) (by show(if true=true then 0 else _)+1<=_;rw[TP rfl];omega) _ _ h.cy h.bW
     ·split
      ·exact(Hc h _ _ a).le (by omega)
      ·exact(dW.of (add:=0) (h.dk (by decide) a) rfl).le (by omega)
theorem zg (c:px T rec)(a:∀n e,Pl.look fs n=some e->e.aT.length<=T):∀(xs:List (Nat×ag)) (b:Bk) (op:Bool) (k:Nat),ik T b k->(∀x∈xs,x.2.length<=T/\x.1<=T+1)->dW T b k (jj rec can fs xs b op) (lD xs)
 |[],b,_,k,h,_=>dW.refl h _
 |x::xs,b,op,k,h,d=>by
  unfold jj;split
  ·exact dW.refl h _
  ·rw[Mk.sn];obtain⟨l,i⟩:=d x (TY ..);exact((G9 c a h op l i).trans λp j=>zg c a xs _ _ p j λy g=>d y (TX _ g)).le (by omega)
end
theorem Cz:∀(d:List ag) (a:ag) (u:Nat) (c:ag),(fw a u c d).2.1+(fw a u c d).2.2.length=u+d.length
 |[],a,u,c=>rfl
 |q::e,a,u,c=>by
  unfold fw;split
  ·rw[Cz e,TK];omega
  ·rfl
theorem D6:∀(f n:Nat) (a:List ag) (x:Nat×ag),x∈kP f n a->x.1<n+a.length
 |0,_,_,_,h=>by cases h
 |_+1,_,[],_,h=>by cases h
 |f+1,n,d::c,x,h=>by
  rw[kP] at h;rcases Ue.1 h with rfl|h
  ·show n<_;rw[TK];omega
  ·have:=D6 f _ _ x h;have e:=Cz c [] 1 d;rw[TK];omega
theorem yx {t:ag}{x:Nat×ag}(h:x∈di t):x.1<=t.length+1:=by
 have j:=D6 _ _ _ x h;have i:(iF t).length<=t.length+1:=by
  have d:∀c:List ag,c.length<=pX c:=λc=>by
   induction c with
   |nil=>exact TS _
   |cons a e g=>rw[se,TK];omega
  have:=d (iF t);rw[BA] at this;exact this
 omega
theorem zP {T:Nat}{fs:List aI}(c:∀i g,Pl.look fs i=some g->g.aT.length<=T):∀d,px T (jP fs d)
 |0,b,k,t,e,h=>by unfold jP;exact(zg (λb k t _ h=>dW.refl h _) c _ _ _ _ h λx a=>⟨TT (t_ a) e,TT (yx a) (by omega)⟩).le (TT (sf t) (by omega))|d+1,b,k,t,e,h=>by unfold jP;exact(zg (zP c d) c _ _ _ _ h λx a=>⟨TT (t_ a) e,TT (yx a) (by omega)⟩).le (TT (sf t) (by omega))
theorem FI {T:Nat}{fs:List aI}(h:∀i c,Pl.look fs i=some c->c.aT.length<=T)(e:ag):∃k,ik T (eb fs e) k/\k<=101*(T+1):=by
 have a:ik T lp 0:=⟨TS _,λn l=>(by cases l),TD _,λx d=>(by cases d),λx d=>(by cases d),TD _,TS _,TS _,TS _⟩;unfold eb;cases j:Pl.look fs e with
 |none=>exact⟨0,⟨a.gG,a.ru,a.nl,a.nf,a.nt,a.ns,a.cj,a.bW,by show 2<=9;decide⟩,TS _⟩
 |some c=>obtain⟨-,k,g,p⟩:=zP h 3 lp 0 c.aT (h e c j) a;refine⟨k,g,?_⟩;have r:=g.cj;have q:((jP fs 3 lp c.aT).cj-lp.cj)*(T+1)<=100*(T+1):=U4 _ (by show _-0<=100;omega);omega
theorem ep.sl {W:ax}{B:Nat}{v:ay}{xs:List ag}(h:ep W B v xs):e_ W v xs:=by
 unfold ep at h;cases xs with
 |nil=>obtain⟨a,cap,rfl⟩:=dX h;exact⟨a,cap,0,0,rfl,λe=>(by cases e),λd c=>(by cases c)⟩
 |cons x j=>obtain⟨i,cap,rfl,-,g⟩:=d_ h (by simp);refine⟨_,cap,i,0,rfl,λ_=>⟨rfl,g⟩,λd c=> ?_⟩;have:=kI h d (by rw[TR];exact c);rw[Ut] at this;rw[Ur];exact this
theorem Ed {W:ax}{B:Nat}{v:ay}{xs:List ag}(h:ep W B v xs)(O:B<=W.heap.size)(A:xs.length<=1073741824)(name:ag):
 Calls prog 114 #[v,.string ⟨name.toArray⟩] W λe W'=>∃v',e= .returned v' /\ep W' B v' (cX xs name)/\W.grownBy W' v.ownBlock/\(v'.ownBlock=v.ownBlock\/∃q,v'.ownBlock=some q/\W.heap.size<=q):=by
 have H:=aB h;have r:=aB (h.sl.uP A name W (TF _ _));obtain⟨F,j,l,p,i⟩:=UF Tryz.kJ;have I:=aB j;have J:=aB l;have K:=aB p;have E:=aB i;obtain⟨a,cap,rfl⟩:=dX h;clear h j l p i;cases c:dO name xs with
 |true=>
  have g:Hid (cX xs name=xs):=by show _=_;unfold cX;rw[TP c]
  go_enter func114,ntmps114;go_wp2_with (first|(go_at_call 115;refine r.u.mono ?_;rintro e C ⟨rfl,rfl⟩;rw[c])|fail)
  go_ret;exact⟨_,rfl,by rw[g.u];exact H.u,World.grownBy.refl _ _,.inl rfl⟩
 |false=>
  have g:Hid (cX xs name=xs++[name]):=by show _=_;unfold cX;rw[TJ (by rw[c];decide)]
  go_enter func114,ntmps114;go_wp2_with (first|(go_at_call 115;refine r.u.mono ?_;rintro e C ⟨rfl,rfl⟩;rw[c])|(at_builtin;go_loud (refine Uu _ rfl (.tmp 11) (.tmp 13) 30 rfl B 9 F (.string ⟨#[]⟩) 1 16 UC I.u J.u K.u E.u rfl (by decide) _ xs.length _ rfl (T_ H.u _) ⟨_,0,none⟩ 1 1 [.string ⟨name.toArray⟩] rfl rfl (XU _ _ _) (sL _) (by unfold maxLen;omega) (by omega) (by rw[TM];omega) ?_;intro N L d w z n;have G:=aB d;have y:=aB w;have D:=aB n;obtain⟨P,M,rfl⟩:=dX d;clear d w z n))|fail)
  go_ret;refine⟨_,rfl,?_,(UK _ _ _).trans y.u,?_⟩
  ·rw[g.u];unfold ep;rw[TE,T'];exact G.u
  ·rcases D.u with e|e
   ·exact .inl e
   ·exact .inr ⟨_,e,by rw[TM];omega⟩
theorem JN (n a:ag)(w:ax)(c:n.length<=1073741824)(d:a.length<=1073741824):
 Calls prog 153 #[.string ⟨n.toArray⟩,.string ⟨a.toArray⟩] w λe g=>e= .returned (.string ⟨(cH n a).toArray⟩)/\Below w.heap.size w g :=
 BI ⟨n.toArray⟩ ⟨a.toArray⟩ w c d
structure qD (W:ax)(nd:List ag)(stem:ag)(vs:List ay)(i:Nat)(v:ay)(wr:ax):Prop where
 aL:Below W.heap.size W wr
 dt:aG wr W.heap.size 147 vs
 row:ep wr (W.heap.size+1) v ((nd.take i).map λn=>cH n stem)
theorem qD.aE {W:ax}{vs:List ay}{v:ay}{wr w2:ax}(h:qD W a e vs c v wr)(d:Below wr.heap.size wr w2):qD W a e vs c v w2:=⟨h.aL.tr d,h.dt.aE d,bT h.row λk g=>d.block k (T3 h.row k g).2⟩
variable {j p y:List ay}
theorem qD.push {W:ax}{i:Nat}{v v' :ay}{wr w2:ax}{o:Obj}(h:qD W a e j i v wr)(p:i<a.length)(g:(wr.alloc o).grownBy w2 v.ownBlock)(l:w2.ownsRow (W.heap.size+1) 9 1 v' (((a.take i).map λn=>cH n e).length+1) (((a.take i).map λn=>cH n e).map aK++[aK (cH a[i] e)])):qD W a e j (i+1) v' w2:=by have c:=(UK wr o v.ownBlock).trans g;have d:=h.dt.lt;refine⟨h.aL.trans ⟨c.os,c.tape,c.output,c.size,λk q=>c.block k (by omega) (dD h.row (by omega))⟩,(c.block _ d (dD h.row (by omega))).trans h.dt,?_⟩;unfold ep;rw[TW p,T',T',TE];exact l
def Se (b:Bk)(fs:List aI)(c:List ag)(a:ag)(W:ax)(e:Ending)(W' :ax):Prop:=((c.all (λn=>jR b fs (cH n a))=false/\e= .returned (.tuple #[.slice none 0 0,.bool false]))\/(c.all (λn=>jR b fs (cH n a))=true/\∃v,e= .returned (.tuple #[v,.bool true])/\ep W' (W.heap.size+1) v (c.map λn=>cH n a)))/\Below W.heap.size W W'
theorem Pp {d:ag->Bool}(h:∀n∈a.take c,d n=true)(i:c<a.length)(g:d a[c]=true):∀n∈a.take (c+1),d n=true:=λn e=>by
 rw[TW i] at e;rcases T4.1 e with q|q
 ·exact h n q
 ·rw[TL.1 q];exact g
theorem Mn {W:ax}{bb:Nat}{fs:List aI}{b:Bk}(hV:mh W bb fs b)(hS:mi b)(aR:fs.length<=16777216){a1 C a3 a4:Option Addr}{k1 k3 k4 n1 n3 n4:Nat}{pt ph:Bool}(ao:e_ W (.slice C a.length c) a)(aT:a.length<=2000)(av:∀n∈a,n.length<=2000)(g:ag)(aQ:g.length<=1073741000):
 Calls prog 113 #[.pointer (some ⟨bb,0,none⟩),.agg #[.slice a1 n1 k1,.slice C a.length c,.slice a3 n3 k3,.slice a4 n4 k4,.bool pt,.bool ph],.string ⟨g.toArray⟩] W λe W'=>Se b fs a g W e W' :=by
 have HV:=aB hV;have HS:=aB hS;have HN:=aB ao;have aF:=aB av;obtain⟨i0,B,ah,al,ac⟩:=UF Tryz.kJ;have aq:=aB B;have ar:=aB ah;have au:=aB al;have ak:=aB ac;have H0:Hid (qD W a g [.slice a1 n1 k1,.slice C a.length c,.slice a3 n3 k3,.slice a4 n4 k4,.bool pt,.bool ph] 0 (.slice none 0 0) (W.alloc (.cells #[.slice a1 n1 k1,.slice C a.length c,.slice a3 n3 k3,.slice a4 n4 k4,.bool pt,.bool ph] 147))):=⟨aj _ _,aG.bA W 147 [.slice a1 n1 k1,.slice C a.length c,.slice a3 n3 k3,.slice a4 n4 k4,.bool pt,.bool ph],Uk _ _ _ _⟩;clear hV hS ao av B ah al ac;go_enter func113,ntmps113;go_wp2_with fail
 go_loopw [8,9] (λlv V wr=>∃(d:Nat),V= .int .i64 d/\d<=a.length/\Hid (∀n∈a.take d,jR b fs (cH n g)=true)/\Hid (qD W a g [.slice a1 n1 k1,.slice C a.length c,.slice a3 n3 k3,.slice a4 n4 k4,.bool pt,.bool ph] d lv wr)) (λ_ V _=>a.length-aS V)
 case atStart=>exact⟨0,rfl,TS _,λn hn=>(by cases hn),H0⟩
 case round=>
  obtain⟨d,rfl,B,HA,r⟩:=hrel;have O:=r.u.dt.cell 1 (by simp);simp only[TG,TI] at O;obtain⟨J,N,rfl⟩:=dX r.u.row;rw[TR,Um,VR B] at*;by_cases w:d<a.length
  ·obtain⟨an,cn,bn,on,he,ap,am⟩:=HN.u.aE r.u.aL;cases he;obtain⟨rfl,aU⟩:=ap (by omega);have d0:=am d w;unfold aK at d0;have t1:(d:Int)<(a.length:Int):=by omega
   have aP:=aF.u _ (TV w);have ab:Hid (jR b fs (cH a[d] g)=true->∀n∈a.take (d+1),jR b fs (cH n g)=true):=λh=>Pp HA.u w h;have aN:Hid (jR b fs (cH a[d] g)=false->a.all (λn=>jR b fs (cH n g))=false):=λh=>by rw[ZR];exact⟨_,TV w,by rw[h];decide⟩
   have CR:=aB (JN a[d] g wr (by omega) (by omega));have M:=aB (λ(i w2:ax) (o:Obj) (v' :ay) (z:Below wr.heap.size wr i) (hg:(i.alloc o).grownBy w2 (Value.slice J d N).ownBlock) (ho:w2.ownsRow (W.heap.size+1) 9 1 v' (d+1) (((a.take d).map λn=>cH n g).map aK++[aK (cH a[d] g)]))=>(r.u.aE z).push w hg (by rw[TR,Um,VR B];exact ho));have I:Hid (∀i,Below wr.heap.size wr i->Calls prog 111 #[.pointer (some ⟨bb,0,none⟩),.string ⟨(cH a[d] g).toArray⟩] i λe L=>e= .returned (.bool (jT b (cH a[d] g)))/\L =i):=λi z=>Fo ((HV.u.aE r.u.aL).aE z) HS.u _;have aJ:=(HV.u.aE r.u.aL).aX;obtain⟨U,Z,bf,nW,f0,aa,ai⟩:=aJ;have aA:=(HV.u.aE r.u.aL).lt;have G:Hid (∀i,Below wr.heap.size wr i->Calls prog 45 #[.slice U fs.length Z,.string ⟨(cH a[d] g).toArray⟩] i λe L=>e= .returned (.int .i64 (iG fs (cH a[d] g)))/\L =i):=λi z=>(n_ fs (cH a[d] g) U Z bf nW i (λe=>(aa e).1) (λP hj=>(ai.aL z (aa (by omega)).2) P hj) (by omega)).mono λe L h=>⟨h.1,h.2.symm⟩;have Q:Hid (∀i,Below wr.heap.size wr i->i.cell? ⟨bb,0,none⟩=some (.slice U fs.length Z)):=λi z=>(z.cell (p:=⟨bb,0,none⟩) aA).trans f0;have aD:=aB (oY (fs:=fs) (p:=cH a[d] g));have y:Hid (jR b fs (cH a[d] g)=((Pl.look fs (cH a[d] g)).isSome||jT b (cH a[d] g))):=rfl;have aw:=aB r.u.aL;have az:=aB r.u.row;have R:=r.u.dt.lt;generalize a[d]=ni at*;generalize cH ni g=q at*;clear aa ai am f0 ap;have K:Hid (wr.ownsRow (W.heap.size+1) 9 1 (.slice J d N) d (((a.take d).map λn=>cH n g).map aK)):=aB (by have:=az.u;unfold ep at this;rw[TR,Um,VR B] at this;exact this);rcases aD.u with⟨e1,l1⟩|⟨P,hj,e1,l1⟩
   ·rw[e1] at G;rw[l1] at y;cases ad:jT b q with
    |true=>
     rw[ad] at I y;have E:=aB (ab.u y.u);go_wp2_with (first|(go_at_call 153;refine CR.u.mono ?_;rintro e i ⟨rfl,l⟩;have j:=aB l;have g0:=Q.u i l;have g1:=(l.cell (p:=⟨W.heap.size,1,none⟩) R).trans O;clear l)|(go_at_call 111;refine(I.u _ j.u).mono ?_;rintro e w2 ⟨rfl,rfl⟩)|(go_at_call 45;refine(G.u _ j.u).mono ?_;rintro e w3 ⟨rfl,rfl⟩)|(at_builtin;go_loud (refine Uu _ rfl (.tmp 40) (.tmp 42) 30 rfl (W.heap.size+1) 9 i0 (.string ⟨#[]⟩) 1 16 UC aq.u ar.u au.u ak.u rfl (by decide) _ d _ rfl (T_ (bT K.u λk w=>j.u.block k (T3 K.u k w).2) _) ⟨_,0,none⟩ 1 1 [.string ⟨q.toArray⟩] rfl rfl (XU _ _ _) (sL _) (by unfold maxLen;omega) (by omega) (by rw[TM];have:=j.u.size;omega) ?_;intro v3 w4 A H S Y;have F:=aB A;have D:=aB H;obtain⟨aO,aC,rfl⟩:=dX A;clear A H S Y))|fail)
     first
      |exact⟨⟨d+1,by go_num,by omega,E,aB (M.u _ _ _ _ j.u D.u F.u)⟩,by simp only[aS];omega⟩
      |(go_roundw;exact⟨d+1,by go_num,by omega,E,aB (M.u _ _ _ _ j.u D.u F.u)⟩;simp only[aS];omega)
    |false=>
     rw[ad] at I y;have aM:=aB (aN.u y.u);go_wp2_with (first|(go_at_call 153;refine CR.u.mono ?_;rintro e i ⟨rfl,l⟩;have j:=aB l;have g0:=Q.u i l;have g1:=(l.cell (p:=⟨W.heap.size,1,none⟩) R).trans O;clear l)|(go_at_call 111;refine(I.u _ j.u).mono ?_;rintro e w2 ⟨rfl,rfl⟩)|(go_at_call 45;refine(G.u _ j.u).mono ?_;rintro e w3 ⟨rfl,rfl⟩)|fail)
     go_ret2
     exact⟨.inl ⟨aM.u,rfl⟩,aw.u.tr j.u⟩
   ·rw[e1] at G;rw[l1] at y;have E:=aB (ab.u (by rw[y.u];rfl));have tj:¬(P:Int)<0:=by omega
    go_wp2_with (first|(go_at_call 153;refine CR.u.mono ?_;rintro e i ⟨rfl,l⟩;have j:=aB l;have g0:=Q.u i l;have g1:=(l.cell (p:=⟨W.heap.size,1,none⟩) R).trans O;clear l)|(go_at_call 111;refine(I.u _ j.u).mono ?_;rintro e w2 ⟨rfl,rfl⟩)|(go_at_call 45;refine(G.u _ j.u).mono ?_;rintro e w3 ⟨rfl,rfl⟩)|(at_builtin;go_loud (refine Uu _ rfl (.tmp 40) (.tmp 42) 30 rfl (W.heap.size+1) 9 i0 (.string ⟨#[]⟩) 1 16 UC aq.u ar.u au.u ak.u rfl (by decide) _ d _ rfl (T_ (bT K.u λk w=>j.u.block k (T3 K.u k w).2) _) ⟨_,0,none⟩ 1 1 [.string ⟨q.toArray⟩] rfl rfl (XU _ _ _) (sL _) (by unfold maxLen;omega) (by omega) (by rw[TM];have:=j.u.size;omega) ?_;intro v3 w4 A H S Y;have F:=aB A;have D:=aB H;obtain⟨aO,aC,rfl⟩:=dX A;clear A H S Y))|fail)
    first
     |exact⟨⟨d+1,by go_num,by omega,E,aB (M.u _ _ _ _ j.u D.u F.u)⟩,by simp only[aS];omega⟩
     |(go_roundw;exact⟨d+1,by go_num,by omega,E,aB (M.u _ _ _ _ j.u D.u F.u)⟩;simp only[aS];omega)
  ·have t1:¬(d:Int)<(a.length:Int):=by omega
   have ae:d=a.length:=by omega
   have HR:Hid (ep wr (W.heap.size+1) (.slice J d N) (a.map λn=>cH n g)):=aB (by have:=r.u.row;rw[Uh (by omega)] at this;exact this);have aH:Hid (a.all (λn=>jR b fs (cH n g))=true):=by show _=_;rw[Xo];have:=HA.u;rwa [ae,Us] at this
   have HB:=aB r.u.aL;clear ae;go_wp2_with fail
   go_ret2
   exact⟨.inr ⟨aH.u,.slice J d N,rfl,HR.u⟩,HB.u⟩
def dw (x:Nr)(v:ay):List ay:=[aK x.name,v,gI x.gu,aK x.stem,.bool x.ph,.bool false,.slice none 0 0]
def AS:List ay:=[.string ⟨#[]⟩,.slice none 0 0,.int .i64 0,.string ⟨#[]⟩,.bool false,.bool false,.slice none 0 0]
structure iR (W:ax)(nb lo:Nat)(x:Nr)(v:ay)(wr:ax):Prop where
 aL:Below W.heap.size W wr
 gE:aG wr W.heap.size 116 AS
 dt:aG wr nb 116 (dw x v)
 row:ep wr lo v x.aF
 lt:W.heap.size<nb
 lo:nb<lo/\lo<=wr.heap.size
section
variable {W wr w2:ax} {nb lo:Nat} {x:Nr} {v v' :ay}
theorem iR.aE (h:iR W nb lo x v wr)(a:Below wr.heap.size wr w2):iR W nb lo x v w2:=⟨h.aL.tr a,h.gE.aE a,h.dt.aE a,bT h.row λk c=>a.block k (T3 h.row k c).2,h.lt,h.lo.1,TT h.lo.2 a.size⟩
theorem iR.push (h:iR W nb lo x v wr){n:ag}(i:ep w2 lo v' (cX x.aF n))(a:wr.grownBy w2 v.ownBlock):iR W nb lo {x with aF:=cX x.aF n} v' (w2.setCell ⟨nb,1,none⟩ v')/\aG w2 nb 116 (dw x v)/\(∀q,q<lo->q≠nb->(w2.setCell ⟨nb,1,none⟩ v').heap[q]?=wr.heap[q]?)/\wr.heap.size<=(w2.setCell ⟨nb,1,none⟩ v').heap.size:=by
 have l:=h.lt;have e:=h.lo;have c:Below lo wr w2:=⟨a.os,a.tape,a.output,a.size,λk d=>a.block k (by omega) (dD h.row d)⟩;have j:aG w2 nb 116 (dw x v):=h.dt.aL c e.1;have r:w2.heap.size<=(w2.setCell ⟨nb,1,none⟩ v').heap.size:=by exact YU (by simp)
 have g:∀q,q≠nb->(w2.setCell ⟨nb,1,none⟩ v').heap[q]?=w2.heap[q]?:=λq u=>T5 _ _ _ _ u;have w:Below W.heap.size W (w2.setCell ⟨nb,1,none⟩ v'):=(h.aL.trans (c.mono (by omega))).setCell (p:=⟨nb,1,none⟩) (VA l) _;refine⟨⟨w,(g _ (by omega)).trans (h.gE.aL c (by omega)),j.set 1 v',bT i λk d=>g k (by have:=(T3 i k d).1;omega),l,e.1,TT (TT e.2 a.size) r⟩,j,λq z y=>(g q y).trans (c.block q z),TT a.size r⟩
theorem iR.set (h:iR W nb lo x v wr)(a :Nr){j:Nat}{u:ay}(i:(j=2/\u=gI a.gu /\a ={x with gu :=a.gu })\/(j=3/\u=aK a.stem/\a ={x with stem:=a.stem})):iR W nb lo a v (wr.setCell ⟨nb,j,none⟩ u):=by
 have l:=h.lt;have d:=h.lo;have g:∀q,q≠nb->(wr.setCell ⟨nb,j,none⟩ u).heap[q]?=wr.heap[q]?:=λq w=>T5 _ _ _ _ w;have e:=h.dt.set j u;refine⟨h.aL.setCell (p:=⟨nb,j,none⟩) (VA l) _,(g _ (by omega)).trans h.gE,?_,?_,l,d.1,TT d.2 (YU (by simp))⟩
 ·rcases i with⟨rfl,rfl,c⟩|⟨rfl,rfl,c⟩
  ·rw[c];exact e
  ·rw[c];exact e
 ·have n:a.aF=x.aF:=by rcases i with⟨-,-,c⟩|⟨-,-,c⟩<;>rw[c]
  rw[n];exact bT h.row λk r=>g k (by have:=(T3 h.row k r).1;omega)
theorem iR.R6 (h:iR W nb lo x (.slice none 0 0) wr)(a:x.aF=[]):iR W nb wr.heap.size x (.slice none 0 0) wr:=by have c:=h.lo;exact⟨h.aL,h.gE,h.dt,by rw[a];exact Uk _ _ _ _,h.lt,by omega,TD _⟩
theorem iR.xq (h:iR W nb lo x v wr):iR W nb lo x v wr.drew:=⟨⟨h.aL.os,h.aL.tape,h.aL.output,h.aL.size,h.aL.block⟩,h.gE,h.dt,bT h.row λ_ _=>rfl,h.lt,h.lo⟩
end
def qL (b:Bk)(fs:List aI)(name:ag):Nr×Bool:=
 if fD b.aD name (-1)=none/\ft b name=false then
  match jD b fs name with
  |some a=>(⟨name,((b.aD.getD a cQ).nd.map λn=>cH n (fN ((b.aD.getD a cQ).tg.headD []) name)).foldl cX [],some a,fN ((b.aD.getD a cQ).tg.headD []) name,ft b name⟩,true)|none=>(⟨name,[],none,[],ft b name⟩,jT b name||(ft b name||(Pl.look fs name).isSome))
 else(⟨name,[],fD b.aD name (-1),[],ft b name⟩,jT b name||(ft b name||(Pl.look fs name).isSome))
theorem QS (b:Bk)(fs:List aI)(name:ag):cT b fs name=({(qL b fs name).1 with aF:=lA b name (qL b fs name).1.aF},(qL b fs name).2):=by
 unfold cT qL;by_cases a:fD b.aD name (-1)=none/\ft b name=false
 ·rw[TP a,TP a];cases jD b fs name<;>rfl
 ·rw[TJ a,TJ a]
def If (b:Bk)(fs:List aI)(name:ag)(W:ax)(e:Ending)(W' :ax):Prop:=∃v,e= .returned (.tuple #[.agg (dw (cT b fs name).1 v).toArray,.bool (cT b fs name).2])/\ep W' (W.heap.size+1) v (cT b fs name).1.aF/\Below W.heap.size W W'
theorem qP:∀(c a:List ag),(c.foldl cX a).length<=a.length+c.length
 |[],a=>by simp
 |x::d,a=>by
  rw[Ux];have e:=qP d (cX a x);have g:(cX a x).length<=a.length+1:=by unfold cX;split<;>simp
  rw[TK];omega
theorem Db {name:ag}:∀(rs:List Ru) (a:List ag),(∀c∈rs,c.nd.length<=2000)->(rs.foldl (λa c=>if de name c=true then c.nd.foldl cX a else a) a).length<=a.length+2000*rs.length
 |[],a,_=>by simp
 |c::rs,a,h=>by
  rw[Ux];have g:=Db (name:=name) rs (if de name c=true then c.nd.foldl cX a else a) λq d=>h q (TX _ d);have e:=h c (TY ..);have i:(if de name c=true then c.nd.foldl cX a else a).length<=a.length+2000:=by
   split
   ·have:=qP c.nd a;omega
   ·omega
  rw[TK];omega
def jM (x:(Nr×Bool)×ay):List ay:=[aK x.1.1.name,x.2,gI x.1.1.gu,aK x.1.1.stem,.bool x.1.1.ph,.bool x.1.2,.slice none 0 0]
theorem Ah:∀(xs:List ((Nr×Bool)×ay)) (c a:Nat) (h:c<xs.length),a<7->(xs.flatMap jM)[c*7+a]?=(jM xs[c])[a]?
 |x::d,0,a,_,g=>by rw[Ud,YP,Ur,UZ (by simp[jM];omega)];rfl
 |x::d,c+1,a,h,g=>by
  have e:(c+1)*7+a=(jM x).length+(c*7+a):=by simp[jM];omega
  rw[Ud,e,Uq (by omega),Vf,Ah d c a (by simpa using h) g];simp
def qG (W:ax)(v:ay):Prop:=∀a n c q,v= .slice a n c->a=some q->∃e d,W.heap[q.block]?=some (Obj.cells e 9 d)
theorem e_.kept {W X:ax}{v:ay}{xs:List ag}(h:e_ W v xs)(l:qG W v)(p:∀(q:Nat) g d,W.heap[q]?=some (Obj.cells g 9 d)->X.heap[q]?=W.heap[q]?)(w:W.heap.size<=X.heap.size):e_ X v xs/\qG X v:=by
 refine⟨?_,λa n c q e1 e2=> ?_⟩
 ·obtain⟨a,cap,b,o,r,j,u⟩:=h;refine⟨a,cap,b,o,r,λe=>⟨(j e).1,T7 (j e).2 w⟩,λz y=> ?_⟩;obtain⟨g,d,i⟩:=l a _ cap ⟨b,o,none⟩ r (j (by omega)).1;have:=u z y;unfold World.cell? at this⊢;rw[p b g d i];exact this
 ·obtain⟨g,d,i⟩:=l a n c q e1 e2;exact⟨g,d,(p _ g d i).trans i⟩
theorem ep.Tm {W:ax}{B:Nat}{v:ay}{xs:List ag}(h:ep W B v xs):qG W v:=λa n c q e1 e2=>by
 subst e1 e2;rcases h.2 with⟨d,_⟩|⟨i,cap,e,d,_,g,_⟩
 ·cases d
 ·cases d;exact⟨e,_,g⟩
structure eZ (L0 W:ax)(wb bb:Nat)(fs:List aI)(b:Bk)(vN vO:ay)(xs:List ((Nr×Bool)×ay))(t:Wk)(er:Nat):Prop where
 row:aG W wb 43 [.pointer (some ⟨bb,0,none⟩),vN,vO,.int .i64 (er:Int),.int .i64 0]
 cV:mh L0 bb fs b
 bU:Below L0.heap.size L0 W
 lt:L0.heap.size<=wb
 nx:xs.map (·.1)=t.aQ
 aQ:W.ownsRow (wb+1) 116 7 vN xs.length (xs.flatMap jM)
 aW:W.ownsRow (wb+1) 3 1 vO t.aW.length (t.aW.map λ(i:Nat)=>Value.int .i64 (i:Int))
 aF:∀x∈xs,e_ W x.2 x.1.1.aF/\qG W x.2
structure jd (W W' :ax)(wb:Nat)(vN vO vN' vO' :ay):Prop where
 bU:Below wb W W'
 jo:∀q,q<W.heap.size->q≠wb->some q≠vN.ownBlock->some q≠vO.ownBlock->W'.heap[q]?=W.heap[q]?
 xY:vN'.ownBlock=vN.ownBlock\/∃q,vN'.ownBlock=some q/\W.heap.size<=q
 xW:vO'.ownBlock=vO.ownBlock\/∃q,vO'.ownBlock=some q/\W.heap.size<=q
section
variable {L0 W W' X:ax} {wb bb:Nat} {fs:List aI} {b:Bk} {vN vO vN' vO' vN2 vO2:ay} {xs:List ((Nr×Bool)×ay)} {t:Wk} {er:Nat}
theorem jd.refl (W:ax)(wb:Nat)(vN vO:ay):jd W W wb vN vO vN vO:=⟨TF _ _,λ_ _ _ _ _=>rfl,.inl rfl,.inl rfl⟩
theorem jd.bA (a:Below W.heap.size W W')(c:wb<=W.heap.size):jd W W' wb vN vO vN vO:=⟨a.mono c,λq d _ _ _=>a.block q d,.inl rfl,.inl rfl⟩
theorem jd.trans (h:jd W W' wb vN vO vN' vO')(k:jd W' X wb vN' vO' vN2 vO2):jd W X wb vN vO vN2 vO2:=by
 have i:=h.bU.size;refine⟨h.bU.trans k.bU,λq g a d c=> ?_,?_,?_⟩
 ·rw[k.jo q (by omega) a (λe=> ?_) (λe=> ?_),h.jo q g a d c]
  ·rcases h.xY with e1|⟨p,e1,e2⟩
   ·exact d (e.trans e1)
   ·rw[e1] at e;cases e;omega
  ·rcases h.xW with e1|⟨p,e1,e2⟩
   ·exact c (e.trans e1)
   ·rw[e1] at e;cases e;omega
 ·rcases k.xY with e|⟨p,e1,e2⟩
  ·rw[e];exact h.xY
  ·exact .inr ⟨p,e1,by omega⟩
 ·rcases k.xW with e|⟨p,e1,e2⟩
  ·rw[e];exact h.xW
  ·exact .inr ⟨p,e1,by omega⟩
theorem eZ.aE (h:eZ L0 W wb bb fs b vN vO xs t er)(a:Below W.heap.size W W'):eZ L0 W' wb bb fs b vN vO xs t er:=⟨h.row.aE a,h.cV,h.bU.tr a,h.lt,h.nx,bT h.aQ λk c=>a.block k (T3 h.aQ k c).2,bT h.aW λk c=>a.block k (T3 h.aW k c).2,λx d=>(h.aF x d).1.kept (h.aF x d).2 (λq _ _ e=>a.block q (TN.1 e).1) a.size⟩
theorem eZ.tf (h:eZ L0 W wb bb fs b vN vO xs t er):∃a cap g,vN= .slice a xs.length cap/\(0<xs.length->a=some ⟨g,0,none⟩)/\∀c (i:c<xs.length) (d:Nat) (u:ay),(jM xs[c])[d]?=some u->W.cell? ⟨g,c*7+d,none⟩=some u:=by
 by_cases j:0<xs.length
 ·obtain⟨g,cap,e,-,-⟩:=d_ h.aQ j;refine⟨_,cap,g,e,λ_=>rfl,λc i d u l=> ?_⟩;have n:=h.aQ;rw[e] at n;have p:d<7:=by have:=(TZ.1 l).1;simpa [jM] using this
  exact gx n (c*7+d) u (by rw[Ah xs c d i p];exact l)
 ·obtain⟨a,cap,e⟩:=dX h.aQ;exact⟨a,cap,0,e,λq=>absurd q j,λc i=>by omega⟩
end
theorem MQ {L0 W:ax}{wb bb:Nat}{fs:List aI}{b:Bk}{vN vO:ay}{xs:List ((Nr×Bool)×ay)}{t:Wk}{er:Nat}(h:eZ L0 W wb bb fs b vN vO xs t er)(J:xs.length<=1073741824)(name:ag):
 Calls prog 55 #[.pointer (some ⟨wb,0,none⟩),.string ⟨name.toArray⟩] W λe W'=>e= .returned (gI (dj t.aQ name))/\W' =W:=by
 have B:=h.row.cell 1 (by simp);simp only[TG,TI] at B;obtain⟨a,cap,H,rfl,E,z⟩:=h.tf;have q:=aB z;have j:Hid (dj t.aQ name=xs.findIdx? λx=>x.1.1.name==name):=aB (by unfold dj;rw[<-h.nx,YV];rfl);clear h z;go_enter func55,ntmps55;go_wp2_with fail
 go_loopw [5] (λl wr=>∃c:Nat,l= .int .i64 c/\c<=xs.length/\Hid (∀d (g:d<xs.length),d<c->(xs[d].1.1.name==name)=false)/\wr=W) (λl _=>xs.length-aS l)
 case atStart=>exact⟨0,rfl,TS _,λd g F=>(by omega),rfl⟩
 case round=>
  obtain⟨c,rfl,F,i,C⟩:=hrel;subst C;by_cases p:c<xs.length
  ·obtain rfl:=E (by omega);have w:=q.u c p 0 _ rfl;have D:(c:Int)<(xs.length:Int):=by omega
   unfold aK at w;rw[Ve] at w;cases r:xs[c].1.1.name==name with
   |true=>
    have n:Hid (dj t.aQ name=some c):=aB (by rw[j.u,Up];exact⟨p,r,λd g=>by rw[i.u d (by omega) g];decide⟩);clear i j q;generalize xs[c].1.1.name=A at*;go_wp2_with fail
    go_ret;exact⟨by rw[n.u];rfl,rfl⟩
   |false=>
    have y:Hid (∀d (g:d<xs.length),d<c+1->(xs[d].1.1.name==name)=false):=aB (λd g I=>by
     by_cases e:d=c
     ·subst e;exact r
     ·exact i.u d g (by omega))
    generalize xs[c].1.1.name=A at*;go_wp2_with fail
    first
     |exact⟨⟨c+1,by go_num,by omega,y,by trivial⟩,by simp only[aS];omega⟩
     |(go_roundw;exact⟨c+1,by go_num,by omega,y,by trivial⟩;simp only[aS];omega)
  ·have D:¬(c:Int)<(xs.length:Int):=by omega
   have n:Hid (dj t.aQ name=none):=aB (by rw[j.u,UO];intro x G;obtain⟨d,g,rfl⟩:=U8 G;exact i.u d g (by omega));go_wp2_with fail
   go_ret;exact⟨by rw[n.u];rfl,rfl⟩
theorem qM {i:Program}{l:Array Oper}{o:Oper}{a:Act}{w:ax}{K:Act->ax->Prop}{Q:Exit->Act->ax->Prop}{E:Prop}(B:o.guard=none)(s x:Operand)(t:TypeId)(C:o.op=Op.call {callee:=Callee.builtin Builtin.append,args:= #[s,x],argTypes:= #[t,t]})(base:Nat)(e:TypeId)(h:TypeInfo)(z:ay)(size bytes:Nat)(H:i.underlying t=some (.slice e))(y:i.info? e=some h)(R:h.zero=some z)(G:h.size=size)(J:h.bytes=bytes)(Z:z.cells.size=size)(I:0<size)(v:ay)(n:Nat)(xs:List ay)(S:a.eval s=v)(q:w.ownsRow base e size v n xs)(j:Addr)(m c:Nat)(g:List ay)(U:a.eval x= .slice (some j) m c)(V:g.length=m*size)(hc:∀p u,g[p]?=some u->w.cell? (j.add p)=some u)(N:∀u∈g,u.oneCell' =true)(r:n+m<=maxLen)(P:(n+m)*bytes<=140737488355328)(F:base<=w.heap.size)(L:∀v' d,d.ownsRow base e size v' (n+m) (xs++g)->w.grownBy d v.ownBlock->(v'.ownBlock=v.ownBlock\/v'.ownBlock=some w.heap.size)->K (a.put o.dst v') d):
 if Region.wanted o (yielded l a.tmps)=true then Oper.wp i o a w K Q else E:=by
 have M:Region.wanted o (yielded l a.tmps)=true:=by simp[Region.wanted,B]
 rw[TP M];obtain⟨v',d,O,A,Y,r3,D⟩:=run_append_own_at (P:=i) (w:=w) base t o.type e h z size bytes H y R G J Z I v n xs q j m c g V hc N r P F;unfold Oper.wp;simp[execOp,C,resolve,invoke,builtin,S,U,O,Result.andThen];exact L v' d A Y D
section
variable {α:Type} {f:α->List ay} {k:Nat}
theorem Hh (a:∀x,(f x).length=k):∀xs:List α,(xs.flatMap f).length=xs.length*k
 |[]=>by simp
 |x::c=>by rw[Ud,TE,Hh a c,a,TK,VO];omega
theorem pk (d:∀x,(f x).length=k):∀(xs:List α) (c a:Nat) (i:c<xs.length),a<k->(xs.flatMap f)[c*k+a]?=(f xs[c])[a]?
 |x::h,0,a,_,g=>by rw[Ud,YP,Ur,UZ (by rw[d];exact g)];rfl
 |x::h,c+1,a,i,g=>by
  have e:(c+1)*k+a=(f x).length+(c*k+a):=by rw[d,VO];omega
  rw[Ud,e,Uq (by omega),Vf,pk d h c a (by simpa using i) g];simp
theorem Qi (g:∀x,(f x).length=k)(a:List α)(z d :α)(c:Nat)(u:ay)(h:(f z).set c u=f d):((a++[z]).flatMap f).set (a.length*k+c) u=(a++[d]).flatMap f:=by have e:=Hh g a;rw[US,US,Vg _ _ (by omega),e,Vf];simp only[Ud,List.flatMap_nil,Vs];rw[h]
end
structure dN (W W' :ax)(bb:Nat)(os os' :List ay):Prop where
 bU:Below bb W W'
 jo:∀q,q<W.heap.size->q≠bb->(∀v∈os,some q≠v.ownBlock)->W'.heap[q]?=W.heap[q]?
 nQ :∀v∈os',∀q,v.ownBlock=some q->W.heap.size<=q\/∃u∈os,u.ownBlock=some q
theorem dN.refl (W:ax)(bb:Nat)(a:List ay):dN W W bb a a:=⟨TF _ _,λ_ _ _ _=>rfl,λv d _ c=> .inr ⟨v,d,c⟩⟩
theorem dN.bA {W W' :ax}{bb:Nat}(c:Below W.heap.size W W')(d:bb<=W.heap.size):dN W W' bb j j:=⟨c.mono d,λq a _ _=>c.block q a,λv e _ a=> .inr ⟨v,e,a⟩⟩
theorem dN.trans {W W' X:ax}{bb:Nat}(h:dN W W' bb j p)(k:dN W' X bb p y):dN W X bb j y:=by
 have l:=h.bU.size;refine⟨h.bU.trans k.bU,λq i c d=> ?_,λv a q g=> ?_⟩
 ·rw[k.jo q (by omega) c (λv a e=> ?_),h.jo q i c d];rcases h.nQ v a q e.symm with e1|⟨u,hu,e1⟩
  ·omega
  ·exact d u hu e1.symm
 ·rcases k.nQ v a q g with e|⟨u,hu,e⟩
  ·exact .inl (by omega)
  ·exact h.nQ u hu q e
def Fz (W:ax)(bb:Nat)(a:List ay)(v:ay):Prop:=∀q,v.ownBlock=some q->q<W.heap.size/\q≠bb/\∀u∈a,some q≠u.ownBlock
theorem Fz.cF {W W' :ax}{bb:Nat}{v:ay}(h:Fz W bb j v)(a:dN W W' bb j p):Fz W' bb p v:=λq i=>by
 obtain⟨l,c,g⟩:=h q i;refine⟨T7 l a.bU.size,c,λu d e=> ?_⟩;rcases a.nQ u d q e.symm with e1|⟨t,ht,e1⟩
 ·omega
 ·exact g t ht e1.symm
theorem e_.cF {W W' :ax}{bb:Nat}{v:ay}{xs:List ag}(h:e_ W v xs)(q:Fz W bb j v)(g:dN W W' bb j p):e_ W' v xs:=by obtain⟨a,cap,b,o,d,c,r⟩:=h;refine⟨a,cap,b,o,d,λe=>⟨(c e).1,T7 (c e).2 g.bU.size⟩,λi w=> ?_⟩;obtain⟨n,l,u⟩:=q b (by rw[d,(c (by omega)).1];rfl);exact(VJ (a:=⟨b,o+i,none⟩) (g.jo b n l u)).trans (r i w)
theorem la.cF {W W' :ax}{bb:Nat}{v:ay}{xs:List Nat}(h:la W v xs)(q:Fz W bb j v)(g:dN W W' bb j p):la W' v xs:=by obtain⟨a,cap,b,o,d,c,r⟩:=h;refine⟨a,cap,b,o,d,λe=>⟨(c e).1,T7 (c e).2 g.bU.size⟩,λi w=> ?_⟩;obtain⟨n,l,u⟩:=q b (by rw[d,(c (by omega)).1];rfl);exact(VJ (a:=⟨b,o+i,none⟩) (g.jo b n l u)).trans (r i w)
structure Rm where
 tg:List ag
 nd:List ag
 ss:List ag
 ls:List Nat
 b_:Bool
 ph:Bool
 vt:ay
 vn:ay
 vs:ay
 vl:ay
def Tj:Rm:=⟨[],[],[],[],false,false,.slice none 0 0,.slice none 0 0,.slice none 0 0,.slice none 0 0⟩
def lh (x:Rm):List ay:=[x.vt,x.vn,x.vs,x.vl,.bool x.b_,.bool x.ph]
def lL (x:Rn):List ay:=[aK x.name,aK x.aT,.bool x.iZ]
def dg (n:Nat):ay:= .int .i64 (n:Int)
structure Bm where
 cK:List Rn
 xs:List Rm
 tk:Nat
 er:Nat
 ln:Nat
 vN:ay
 vR:ay
def Bm.du (m:Bm):Rm:=m.xs.getLast?.getD Tj
def Bm.os (m:Bm):List ay:=[m.vN,m.vR,m.du.vs,m.du.vl]
structure xT (W:ax)(bb:Nat)(os:List ay)(x:Rm):Prop where
 s:e_ W x.vs x.ss
 sz:Fz W bb os x.vs
 l:la W x.vl x.ls
 lz:Fz W bb os x.vl
structure pG (W:ax)(bb:Nat)(os:List ay)(x:Rm):Prop where
 t:e_ W x.vt x.tg
 tz:Fz W bb os x.vt
 n:e_ W x.vn x.nd
 nz:Fz W bb os x.vn
theorem xT.cF {W W' :ax}{bb:Nat}{x:Rm}(h:xT W bb j x)(a:dN W W' bb j p):xT W' bb p x:=⟨h.s.cF h.sz a,h.sz.cF a,h.l.cF h.lz a,h.lz.cF a⟩
theorem pG.cF {W W' :ax}{bb:Nat}{x:Rm}(h:pG W bb j x)(a:dN W W' bb j p):pG W' bb p x:=⟨h.t.cF h.tz a,h.tz.cF a,h.n.cF h.nz a,h.nz.cF a⟩
structure cG (L0 W:ax)(bb:Nat)(vf:ay)(fs:List aI)(m:Bm):Prop where
 row:aG W bb 111 [vf,m.vN,m.vR,dg m.tk,dg m.er,dg m.ln]
 bU:Below L0.heap.size L0 W
 lt:L0.heap.size<=bb
 fl:∃a cap b o,vf= .slice a fs.length cap/\(0<fs.length->a=some ⟨b,o,none⟩/\b<L0.heap.size)/\dA L0 b o fs
 cK:W.ownsRow (bb+1) 223 3 m.vN m.cK.length (m.cK.flatMap lL)
 f_:W.ownsRow (bb+1) 147 6 m.vR m.xs.length (m.xs.flatMap lh)
 lI:W.ownsRow (bb+1) 9 1 m.du.vs m.du.ss.length (m.du.ss.map aK)
 lS:W.ownsRow (bb+1) 3 1 m.du.vl m.du.ls.length (m.du.ls.map dg)
 pP:∀x∈m.xs,pG W bb m.os x
 fm:∀x∈m.xs.dropLast,xT W bb m.os x
theorem ep.tL {W:ax}{B:Nat}{v:ay}{xs:List ag}(h:W.ownsRow B 9 1 v xs.length (xs.map aK)):e_ W v xs:=by
 by_cases c:0<xs.length
 ·obtain⟨j,cap,e,l,i⟩:=d_ h c;rw[e] at h⊢;refine⟨_,cap,j,0,rfl,λ_=>⟨rfl,i⟩,λg d=> ?_⟩;rw[Ur];exact gx h g _ (by rw[UG,TH d];rfl)
 ·obtain⟨a,cap,e⟩:=dX h;exact⟨a,cap,0,0,e,λe=>absurd e c,λg d=>by omega⟩
theorem z8 {W:ax}{B:Nat}{v:ay}{xs:List Nat}(h:W.ownsRow B 3 1 v xs.length (xs.map dg)):la W v xs:=by
 by_cases c:0<xs.length
 ·obtain⟨j,cap,e,l,i⟩:=d_ h c;rw[e] at h⊢;refine⟨_,cap,j,0,rfl,λ_=>⟨rfl,i⟩,λg d=> ?_⟩;rw[Ur];exact gx h g _ (by rw[UG,TH d];rfl)
 ·obtain⟨a,cap,e⟩:=dX h;exact⟨a,cap,0,0,e,λe=>absurd e c,λg d=>by omega⟩
theorem FJ {α:Type}{xs:List α}{x:α}(h:x∈xs):x∈xs.dropLast\/xs.getLast?=some x:=by
 have a:xs≠[]:=List.ne_nil_of_mem h;rw[<-Wg a,T4,TL] at h;rcases h with h|h
 ·exact .inl h
 ·exact .inr (by rw[Xq a,h])
section
variable {L0 W W' X:ax} {bb e1 e2 e3:Nat} {vf:ay} {fs:List aI} {m:Bm}
theorem cG.bI (h:cG L0 W bb vf fs m):∀v∈m.os,∀q,v.ownBlock=some q->bb<q/\q<W.heap.size:=λv c q a=>by
 unfold Bm.os at c;simp only[Ue,Vl,Xm] at c;rcases c with rfl|rfl|rfl|rfl
 ·have:=T3 h.cK q a;omega
 ·have:=T3 h.f_ q a;omega
 ·have:=T3 h.lI q a;omega
 ·have:=T3 h.lS q a;omega
theorem cG.Ip (h:cG L0 W bb vf fs m)(i:∀q,q<W.heap.size->q≠bb->X.heap[q]?=W.heap[q]?)(g:Below bb W X)(l:aG X bb 111 [vf,m.vN,m.vR,dg e1,dg e2,dg e3]):cG L0 X bb vf fs {m with tk:=e1,er:=e2,ln:=e3}/\dN W X bb m.os m.os:=by
 have c:dN W X bb m.os m.os:=⟨g,λq r j _=>i q r j,λv e _ p=> .inr ⟨v,e,p⟩⟩;have a:∀v∈m.os,∀k,v.ownBlock=some k->X.heap[k]?=W.heap[k]?:=λv e k n=>by have:=h.bI v e k n;exact i k this.2 (by omega)
 exact⟨⟨l,h.bU.trans (g.mono h.lt),h.lt,h.fl,bT h.cK (a m.vN (by simp[Bm.os])),bT h.f_ (a m.vR (by simp[Bm.os])),bT h.lI (a m.du.vs (by simp[Bm.os])),bT h.lS (a m.du.vl (by simp[Bm.os])),λx d=>(h.pP x d).cF c,λx d=>(h.fm x d).cF c⟩,c⟩
theorem cG.aE (h:cG L0 W bb vf fs m)(a:Below W.heap.size W X):cG L0 X bb vf fs m/\dN W X bb m.os m.os:=h.Ip (λq c _=>a.block q c) (a.mono (VA h.row.lt)) (h.row.aE a)
theorem cG.aZ (h:cG L0 W bb vf fs m)(a e1 e2 e3 n:Nat)(d:(a=3/\e1=n/\e2=m.er/\e3=m.ln)\/(a=4/\e1=m.tk/\e2=n/\e3=m.ln)\/(a=5/\e1=m.tk/\e2=m.er/\e3=n)):cG L0 (W.setCell ⟨bb,a,none⟩ (dg n)) bb vf fs {m with tk:=e1,er:=e2,ln:=e3}/\dN W (W.setCell ⟨bb,a,none⟩ (dg n)) bb m.os m.os:=by refine h.Ip (λq _ c=>T5 _ _ _ _ c) ((TF _ _).setCell (p:=⟨bb,a,none⟩) ak _) ?_;have e:=h.row.set a (dg n);rcases d with⟨rfl,rfl,rfl,rfl⟩|⟨rfl,rfl,rfl,rfl⟩|⟨rfl,rfl,rfl,rfl⟩<;>exact e
theorem cG.ap {v u:ay}{e f a b n k:Nat}{xs:List ay}(g:W.ownsRow (bb+1) e a v n xs)(d:W.ownsRow (bb+1) f b u k j)(h:e≠f):∀q,v.ownBlock=some q->some q≠u.ownBlock:=λq c e1=>by
 rcases oy g d h with e2|e2
 ·rw[c] at e2;cases e2
 ·exact e2 (c.trans e1)
theorem cG.name (h:cG L0 W bb vf fs m){x:Rn}{v:ay}(c:W.grownBy X m.vN.ownBlock)(w:X.ownsRow (bb+1) 223 3 v (m.cK.length+1) (m.cK.flatMap lL++lL x))(G:v.ownBlock=m.vN.ownBlock\/∃q,v.ownBlock=some q/\W.heap.size<=q):
 cG L0 (X.setCell ⟨bb,1,none⟩ v) bb vf fs {m with cK:=m.cK++[x],vN:=v}/\dN W (X.setCell ⟨bb,1,none⟩ v) bb m.os [v,m.vR,m.du.vs,m.du.vl]/\aG X bb 111 [vf,m.vN,m.vR,dg m.tk,dg m.er,dg m.ln]:=by
 have y:=h.lt;have A:∀q,q≠bb->(X.setCell ⟨bb,1,none⟩ v).heap[q]?=X.heap[q]?:=λq a=>T5 _ _ _ _ a;have E:=h.row.lt;have D:=h.bI;have z:aG X bb 111 [vf,m.vN,m.vR,dg m.tk,dg m.er,dg m.ln]:=(c.block _ E (λe=>by have:=(T3 h.cK bb e.symm).1;omega)).trans h.row;have C:∀q,q<W.heap.size->q≠bb->some q≠m.vN.ownBlock->(X.setCell ⟨bb,1,none⟩ v).heap[q]?=W.heap[q]?:=λq g l n=>(A q l).trans (c.block q g n);have F:Below bb W X:=⟨c.os,c.tape,c.output,c.size,λk d=>c.block k (by omega) (λe=>by have:=(T3 h.cK k e.symm).1;omega)⟩;have B:=F.setCell (p:=⟨bb,1,none⟩) ak v;have j:dN W (X.setCell ⟨bb,1,none⟩ v) bb m.os [v,m.vR,m.du.vs,m.du.vl]:=by
  refine⟨B,λq g l n=>C q g l (n m.vN (by simp[Bm.os])),λu i q a=> ?_⟩;simp only[Ue,Vl,Xm] at i;rcases i with rfl|rfl|rfl|rfl
  ·rcases G with e|⟨p,e,e2⟩
   ·exact .inr ⟨m.vN,by simp[Bm.os],e▸a⟩
   ·rw[e] at a;cases a;exact .inl e2
  ·exact .inr ⟨m.vR,by simp[Bm.os],a⟩
  ·exact .inr ⟨m.du.vs,by simp[Bm.os],a⟩
  ·exact .inr ⟨m.du.vl,by simp[Bm.os],a⟩
 have d:∀u∈m.os,(∀q,u.ownBlock=some q->some q≠m.vN.ownBlock)->∀q,u.ownBlock=some q->(X.setCell ⟨bb,1,none⟩ v).heap[q]?=W.heap[q]?:=λu i g q a=>by have:=D u i q a;exact C q this.2 (by omega) (g q a)
 refine⟨⟨z.set 1 v,h.bU.trans (B.mono y),y,h.fl,?_,bT h.f_ (d m.vR (by simp[Bm.os]) (cG.ap h.f_ h.cK (by decide))),bT h.lI (d m.du.vs (by simp[Bm.os]) (cG.ap h.lI h.cK (by decide))),bT h.lS (d m.du.vl (by simp[Bm.os]) (cG.ap h.lS h.cK (by decide))),λx r=>(h.pP x r).cF j,λx r=>(h.fm x r).cF j⟩,j,z⟩;rw[TE,US];refine bT (by simpa using w) λk d=>A k (by have:=(T3 w k d).1;omega)
end
variable {l:List Rm}
section
variable {L0 W W' X:ax} {bb:Nat} {vf:ay} {fs:List aI} {m:Bm}
theorem Bm.og {z:Rm}(h:m.xs=l++[z]):m.du=z:=by unfold Bm.du;rw[h,List.getLast?_concat];rfl
theorem cG.push (h:cG L0 W bb vf fs m){y z:Bool}(hy:pG W bb m.os ⟨a,g,[],[],y,z,r,n,.slice none 0 0,.slice none 0 0⟩){v:ay}(d:W.grownBy X m.vR.ownBlock)(N:X.ownsRow (bb+1) 147 6 v (m.xs.length+1) (m.xs.flatMap lh++[r,n,.slice none 0 0,.slice none 0 0,.bool y,.bool z]))(H:v.ownBlock=m.vR.ownBlock\/∃q,v.ownBlock=some q/\W.heap.size<=q):
 cG L0 (X.setCell ⟨bb,2,none⟩ v) bb vf fs {m with xs:=m.xs++[⟨a,g,[],[],y,z,r,n,.slice none 0 0,.slice none 0 0⟩],vR:=v}/\dN W (X.setCell ⟨bb,2,none⟩ v) bb m.os [m.vN,v,.slice none 0 0,.slice none 0 0]/\aG X bb 111 [vf,m.vN,m.vR,dg m.tk,dg m.er,dg m.ln]:=by
 have O:=h.lt;have R:∀q,q≠bb->(X.setCell ⟨bb,2,none⟩ v).heap[q]?=X.heap[q]?:=λq c=>T5 _ _ _ _ c;have aa:=h.row.lt;have F:=h.bI;have P:aG X bb 111 [vf,m.vN,m.vR,dg m.tk,dg m.er,dg m.ln]:=(d.block _ aa (λe=>by have:=(T3 h.f_ bb e.symm).1;omega)).trans h.row;have I:∀q,q<W.heap.size->q≠bb->some q≠m.vR.ownBlock->(X.setCell ⟨bb,2,none⟩ v).heap[q]?=W.heap[q]?:=λq i A D=>(R q A).trans (d.block q i D);have hb:Below bb W X:=⟨d.os,d.tape,d.output,d.size,λk l=>d.block k (by omega) (λe=>by have:=(T3 h.f_ k e.symm).1;omega)⟩;have E:=hb.setCell (p:=⟨bb,2,none⟩) ak v;have C:dN W (X.setCell ⟨bb,2,none⟩ v) bb m.os [m.vN,v,.slice none 0 0,.slice none 0 0]:=by
  refine⟨E,λq i A D=>I q i A (D m.vR (by simp[Bm.os])),λu w q c=> ?_⟩;simp only[Ue,Vl,Xm] at w;rcases w with rfl|rfl|rfl|rfl
  ·exact .inr ⟨m.vN,by simp[Bm.os],c⟩
  ·rcases H with e|⟨p,e,e2⟩
   ·exact .inr ⟨m.vR,by simp[Bm.os],e▸c⟩
   ·rw[e] at c;cases c;exact .inl e2
  ·cases c
  ·cases c
 have l:∀u∈m.os,(∀q,u.ownBlock=some q->some q≠m.vR.ownBlock)->∀q,u.ownBlock=some q->(X.setCell ⟨bb,2,none⟩ v).heap[q]?=W.heap[q]?:=λu w i q c=>by have:=F u w q c;exact I q this.2 (by omega) (i q c)
 have ab:=E.size;have J:∀(u:ay),u∈m.os->(∀q,u.ownBlock=some q->some q≠m.vN.ownBlock)->(∀q,u.ownBlock=some q->some q≠m.vR.ownBlock)->Fz (X.setCell ⟨bb,2,none⟩ v) bb [m.vN,v,.slice none 0 0,.slice none 0 0] u:=λu w i A q c=>by
  have D:=F u w q c;refine⟨by omega,by omega,λt G e=> ?_⟩;simp only[Ue,Vl,Xm] at G;rcases G with rfl|rfl|rfl|rfl
  ·exact i q c e
  ·rcases H with e1|⟨p,e1,e2⟩
   ·exact A q c (e.trans e1)
   ·rw[e1] at e;cases e;omega
  ·cases e
  ·cases e
 have B:Bm.du {m with xs:=m.xs++[⟨a,g,[],[],y,z,r,n,.slice none 0 0,.slice none 0 0⟩],vR:=v}=⟨a,g,[],[],y,z,r,n,.slice none 0 0,.slice none 0 0⟩:=Bm.og rfl;refine⟨⟨P.set 2 v,h.bU.trans (E.mono O),O,h.fl,bT h.cK (l m.vN (by simp[Bm.os]) (cG.ap h.cK h.f_ (by decide))),?_,?_,?_,λx j=> ?_,λx j=> ?_⟩,C,P⟩
 ·show World.ownsRow _ _ _ _ _ (m.xs++[_]).length ((m.xs++[_]).flatMap lh);rw[TE,US];refine bT (by simpa [lh] using N) λk l=>R k (by have:=(T3 N k l).1;omega)
 ·rw[B];exact Uk _ _ _ _
 ·rw[B];exact Uk _ _ _ _
 ·unfold Bm.os;rw[B];rcases T4.1 j with j|j
  ·exact(h.pP x j).cF C
  ·rw[TL.1 j];exact hy.cF C
 ·unfold Bm.os;rw[B];have Z :x∈m.xs:=by have e:(m.xs++[(⟨a,g,[],[],y,z,r,n,.slice none 0 0,.slice none 0 0⟩:Rm)]).dropLast=m.xs:=Vx;rw[<-e];exact j
  rcases FJ Z with hx2|hx2
  ·exact(h.fm x hx2).cF C
  ·have hz:m.du=x:=by unfold Bm.du;rw[hx2];rfl
   have Q:=h.lI;have L:=h.lS;have U:m.du.vs∈m.os:=by simp[Bm.os]
   have M:m.du.vl∈m.os:=by simp[Bm.os]
   have Y:=l _ U (cG.ap h.lI h.f_ (by decide));have V:=l _ M (cG.ap h.lS h.f_ (by decide));have S:=J _ U (cG.ap h.lI h.cK (by decide)) (cG.ap h.lI h.f_ (by decide));have K:=J _ M (cG.ap h.lS h.cK (by decide)) (cG.ap h.lS h.f_ (by decide));rw[hz] at Q L Y V S K;exact⟨ep.tL (bT Q Y),S,z8 (bT L V),K⟩
theorem cG.tu (h:cG L0 W bb vf fs m){z:Rm}{cap:Nat}(A:m.xs=l++[z])(O:m.vR= .slice (some ⟨c,0,none⟩) m.xs.length cap){z' :Rm}{j:Nat}{v:ay}(hc:(lh z).set j v=lh z')(ht:z'.vt=z.vt/\z'.vn=z.vn/\z'.tg=z.tg/\z'.nd=z.nd){B:Option Nat}(i:W.grownBy X B)(V:B=z.vs.ownBlock\/B=z.vl.ownBlock)(ab:X.ownsRow (bb+1) 9 1 z'.vs z'.ss.length (z'.ss.map aK))(ac:X.ownsRow (bb+1) 3 1 z'.vl z'.ls.length (z'.ls.map dg))(a1:∀q,z'.vs.ownBlock=some q->W.heap.size<=q\/z.vs.ownBlock=some q)(a2:∀q,z'.vl.ownBlock=some q->W.heap.size<=q\/z.vl.ownBlock=some q):
 cG L0 (X.setCell ⟨c,l.length*6+j,none⟩ v) bb vf fs {m with xs:=l++[z']}/\dN W (X.setCell ⟨c,l.length*6+j,none⟩ v) bb m.os [m.vN,m.vR,z'.vs,z'.vl]/\aG X bb 111 [vf,m.vN,m.vR,dg m.tk,dg m.er,dg m.ln]/\X.ownsRow (bb+1) 147 6 m.vR m.xs.length (m.xs.flatMap lh):=by
 have U:=h.lt;have E:=Bm.og A;have N:m.vR.ownBlock=some c:=by rw[O];rfl
 have ad:=T3 h.f_ c N;have M:∀q,q≠c->(X.setCell ⟨c,l.length*6+j,none⟩ v).heap[q]?=X.heap[q]?:=λq d=>T5 _ _ _ _ d;have I:=h.lI;have F:=h.lS;rw[E] at I F;have H:∀q,B=some q->bb<q/\q<W.heap.size/\some q≠m.vN.ownBlock/\some q≠m.vR.ownBlock:=λq d=>by
  rcases V with e|e
  ·have w:=T3 I q (e▸d);exact⟨by omega,w.2,cG.ap I h.cK (by decide) q (e▸d),cG.ap I h.f_ (by decide) q (e▸d)⟩
  ·have w:=T3 F q (e▸d);exact⟨by omega,w.2,cG.ap F h.cK (by decide) q (e▸d),cG.ap F h.f_ (by decide) q (e▸d)⟩
 have Z:aG X bb 111 [vf,m.vN,m.vR,dg m.tk,dg m.er,dg m.ln]:=(i.block _ h.row.lt (λe=>by have:=(H bb e.symm).1;omega)).trans h.row;have hb:Below bb W X:=⟨i.os,i.tape,i.output,i.size,λk r=>i.block k (by have:=h.row.lt;omega) (λe=>by have:=(H k e.symm).1;omega)⟩;have Y:=hb.setCell (p:=⟨c,l.length*6+j,none⟩) (show bb<=c by omega) v;have aa:∀q,q<W.heap.size->q≠c->some q≠B->(X.setCell ⟨c,l.length*6+j,none⟩ v).heap[q]?=W.heap[q]?:=λq w C g=>(M q C).trans (i.block q w g);have L:X.ownsRow (bb+1) 147 6 m.vR m.xs.length (m.xs.flatMap lh):=bT h.f_ λk r=>i.block k (T3 h.f_ k r).2 (λe=>(H k e.symm).2.2.2 r.symm);have J:Bm.du {m with xs:=l++[z']}=z' :=Bm.og rfl;have G:dN W (X.setCell ⟨c,l.length*6+j,none⟩ v) bb m.os [m.vN,m.vR,z'.vs,z'.vl]:=by
  refine⟨Y,λq w C g=>aa q w (λe=>g m.vR (by simp[Bm.os]) (by rw[N,e])) (λe=> ?_),λu D q d=> ?_⟩
  ·rcases V with e2|e2
   ·exact g m.du.vs (by simp[Bm.os]) (by rw[E];exact e.trans e2)
   ·exact g m.du.vl (by simp[Bm.os]) (by rw[E];exact e.trans e2)
  ·simp only[Ue,Vl,Xm] at D;rcases D with rfl|rfl|rfl|rfl
   ·exact .inr ⟨m.vN,by simp[Bm.os],d⟩
   ·exact .inr ⟨m.vR,by simp[Bm.os],d⟩
   ·rcases a1 q d with e|e
    ·exact .inl e
    ·exact .inr ⟨m.du.vs,by simp[Bm.os],by rw[E];exact e⟩
   ·rcases a2 q d with e|e
    ·exact .inl e
    ·exact .inr ⟨m.du.vl,by simp[Bm.os],by rw[E];exact e⟩
 have K:∀{e a n:Nat} {u:ay} {Q:List ay},X.ownsRow (bb+1) e a u n Q->e≠147->(X.setCell ⟨c,l.length*6+j,none⟩ v).ownsRow (bb+1) e a u n Q:=λD he=>bT D λk r=>M k (λe1=>cG.ap D L he k r (by rw[N,e1]));refine⟨⟨(M bb (by omega)).trans Z,h.bU.trans (Y.mono U),U,h.fl,K (bT h.cK λk r=>i.block k (T3 h.cK k r).2 (λe=>(H k e.symm).2.2.1 r.symm)) (by decide),?_,?_,?_,λx y=> ?_,λx y=> ?_⟩,G,Z,L⟩
 ·have R:=L;rw[O] at R;have C:=qU R (l.length*6+j) v;rw[A,Qi (f:=lh) (λ_=>rfl) l z z' j v hc] at C;show World.ownsRow _ _ _ _ m.vR (l++[z']).length ((l++[z']).flatMap lh);rw[O,A];simpa using C
 ·rw[J];exact K ab (by decide)
 ·rw[J];exact K ac (by decide)
 ·unfold Bm.os;rw[J];rcases T4.1 y with y|y
  ·exact(h.pP x (by rw[A];exact Ul _ y)).cF G
  ·rw[TL.1 y];have g:=(h.pP z (by rw[A];simp)).cF G;obtain⟨S,P,t3,t4⟩:=ht;exact⟨by rw[S,t3];exact g.t,by rw[S];exact g.tz,by rw[P,t4];exact g.n,by rw[P];exact g.nz⟩
 ·unfold Bm.os;rw[J];have e1:(l++[z']).dropLast=l:=Vx;have e2:m.xs.dropLast=l:=by rw[A];exact Vx
  exact(h.fm x (by rw[e2,<-e1];exact y)).cF G
end
def Rm.key (x:Rm):List ag×List ag×List ag×List Nat×Bool×Bool:=(x.tg,x.nd,x.ss,x.ls,x.b_,x.ph)
def Ru.key (a:Ru):List ag×List ag×List ag×List Nat×Bool×Bool:=(a.tg,a.nd,a.cs.map (·.1),a.cs.map (·.2),a.b_,a.ph)
structure jF (m:Bm)(b:Bk):Prop where
 cK:m.cK=b.aV
 tk:m.tk=b.cj
 er:m.er=b.cy
 ln:m.ln=b.bW
 rs:m.xs.map Rm.key=b.aD.map Ru.key
theorem jF.len {m:Bm}{b:Bk}(h:jF m b):m.xs.length=b.aD.length:=by have:=TU List.length h.rs;simpa using this
theorem cG.rU {L0 W:ax}{bb:Nat}{vf:ay}{fs:List aI}{m:Bm}(h:cG L0 W bb vf fs m):pN W m.vN m.cK:=by
 by_cases g:0<m.cK.length
 ·obtain⟨p,cap,e,w,q⟩:=d_ h.cK g;have n:=h.cK;rw[e] at n⊢;refine⟨_,cap,p,0,rfl,λ_=>rfl,λd l=> ?_,λ_=>q⟩;have i:∀c u,(lL m.cK[d])[c]?=some u->W.cell? ⟨p,d*3+c,none⟩=some u:=λc u j=>by have r:c<3:=(TZ.1 j).1;exact gx n _ u (by rw[pk (f:=lL) (λ_=>rfl) m.cK d c l r];exact j)
  rw[Ur];exact⟨i 0 _ rfl,i 1 _ rfl,i 2 _ rfl⟩
 ·obtain⟨a,cap,e⟩:=dX h.cK;exact⟨a,cap,0,0,e,λe=>absurd e g,λd l=>by omega,λe=>absurd e g⟩
theorem cG.tA {L0 W:ax}{bb:Nat}{vf:ay}{fs:List aI}{m:Bm}{b:Bk}(h:cG L0 W bb vf fs m)(d:jF m b):mh W bb fs b:=by
 have y:=d.len;have I:=h.row.cell 0 (by simp);have C:=h.row.cell 1 (by simp);have p:=h.row.cell 2 (by simp);have H:=h.row.cell 4 (by simp);have D:=h.row.cell 5 (by simp);simp only[TG,TI] at I C p H D;refine⟨h.row.lt,?_,⟨m.vN,C,by rw[<-d.cK];exact h.rU⟩,?_,by rw[H,d.er];rfl,by rw[D,d.ln];rfl⟩
 ·obtain⟨a,cap,b',o,rfl,i,P⟩:=h.fl;exact⟨a,cap,b',o,I,λe=>⟨(i e).1,T7 (i e).2 h.bU.size⟩,λc d=>(P.aL h.bU (i (by omega)).2) c d⟩
 ·by_cases r:0<m.xs.length
  ·obtain⟨B,cap,e,U,i⟩:=d_ h.f_ r;rw[e] at p;have F:=h.f_;rw[e] at F;refine⟨_,cap,B,0,by rw[<-y];exact p,λ_=>⟨rfl,i⟩,λc A=> ?_⟩;have q:c<m.xs.length:=by omega
   have g:∀j u,(lh m.xs[c])[j]?=some u->W.cell? ⟨B,0+c*6+j,none⟩=some u:=λj u E=>by have R:j<6:=(TZ.1 E).1;rw[Ur];exact gx F _ u (by rw[pk (f:=lh) (λ_=>rfl) m.xs c j q R];exact E)
   have w:Rm.key m.xs[c]=Ru.key b.aD[c]:=by have:=TU (λS=>S[c]?) d.rs;simp only[UG,TH A,TH q,XB,WN] at this;exact this
   unfold Rm.key Ru.key at w;simp only[Y2] at w;obtain⟨J,Q,K,L,M,O⟩:=w;have z:=h.pP m.xs[c] (TV q);have G:e_ W m.xs[c].vs m.xs[c].ss/\la W m.xs[c].vl m.xs[c].ls:=by
    rcases FJ (TV q) with hx|hx
    ·exact⟨(h.fm _ hx).s,(h.fm _ hx).l⟩
    ·have N:m.du=m.xs[c]:=by unfold Bm.du;rw[hx];rfl
     rw[<-N];exact⟨ep.tL h.lI,z8 h.lS⟩
   exact⟨_,_,_,_,g 0 _ rfl,g 1 _ rfl,g 2 _ rfl,g 3 _ rfl,by rw[<-M];exact g 4 _ rfl,by rw[<-O];exact g 5 _ rfl,by rw[<-J];exact z.t,by rw[<-Q];exact z.n,by rw[<-K];exact G.1,by rw[<-L];exact G.2⟩
  ·obtain⟨a,cap,e⟩:=dX h.f_;rw[e] at p;exact⟨a,cap,0,0,by rw[<-y];exact p,λe=>absurd (y▸e) r,λc A=>absurd (show 0<m.xs.length by omega) r⟩
def gR (T:Nat)(b:Bk)(rest:Nat):Prop:=∃k,ik T b k/\k+rest+(100-b.cj)*(T+1)<=101*(T+1)
section
variable {T:Nat} {b b' :Bk} {rest add:Nat}
theorem gR.step (h:gR T b (rest+add))(g:∀k,ik T b k->dW T b k b' add):gR T b' rest:=by
 obtain⟨k,d,c⟩:=h;obtain⟨j,i,a,l⟩:=g k d;refine⟨i,a,?_⟩;have n:=a.cj;have e:100-b.cj=(100-b'.cj)+(b'.cj-b.cj):=by omega
 rw[e,ZW] at c;omega
theorem gR.xA (h:gR T b rest)(c:add<=rest):gR T b add:=by obtain⟨k,a,d⟩:=h;exact⟨k,a,by omega⟩
theorem gR.cj (h:gR T b rest)(d:b.cj<100):gR T {b with cj:=b.cj+1} (rest+(T+1)):=by
 obtain⟨k,a,c⟩:=h;refine⟨k,⟨a.gG,a.ru,a.nl,a.nf,a.nt,a.ns,by show b.cj+1<=100;omega,a.bW,a.cy⟩,?_⟩;have e:100-b.cj=(100-(b.cj+1))+1:=by omega
 rw[e,ZW,Nat.one_mul] at c;show k+(rest+(T+1))+(100-(b.cj+1))*(T+1)<=_;omega
theorem gR.dk (h:gR T b rest){e n:Nat}(d:e<=9)(g:n<=T+1):gR T (b.dk e n) rest:=by obtain⟨k,a,c⟩:=h;exact⟨k,a.dk d g,c⟩
theorem gR.size (h:gR T b rest)(w:T<=1048576):mi b:=by
 obtain⟨k,a,u⟩:=h;have r:k<=105906277:=by
  have:101*(T+1)<=105906277:=by omega
  omega
 refine⟨a.gG,λj l=> ?_,⟨by have:=a.nl;omega,a.nf,λx q=>by have:=a.nt x q;omega,by have:=a.ns;omega⟩,a.cj,by have:=a.bW;omega,a.cy⟩;obtain⟨n,d,i,e,y,g⟩:=a.ru j l;exact⟨n,d,i,e,by omega,λc p=>by have:=g.1 c p;omega⟩
theorem gR.aV (h:gR T b rest)(d:T<=1048576):b.aV.length<=105906277:=by
 obtain⟨k,a,c⟩:=h;have:101*(T+1)<=105906277:=by omega
 have:=a.nl;omega
end
def mW (L0:ax)(bb:Nat)(vf:ay)(fs:List aI)(c:List ay)(b' :Bk)(W:ax)(e:Ending)(W' :ax):Prop:=(∃v,e= .returned v)/\∃a,cG L0 W' bb vf fs a /\jF a b' /\dN W W' bb c a.os
theorem mW.bj {L0 W X W' :ax}{bb:Nat}{vf:ay}{fs:List aI}{b' :Bk}{e:Ending}(h:mW L0 bb vf fs p b' X e W')(a:dN W X bb j p):mW L0 bb vf fs j b' W e W' :=by obtain⟨g,m,c,i,d⟩:=h;exact⟨g,m,c,i,a.trans d⟩
theorem cG.cells {L0 W:ax}{bb:Nat}{vf:ay}{fs:List aI}{m:Bm}(h:cG L0 W bb vf fs m):W.cell? ⟨bb,0,none⟩=some vf/\W.cell? ⟨bb,1,none⟩=some m.vN/\W.cell? ⟨bb,2,none⟩=some m.vR/\W.cell? ⟨bb,3,none⟩=some (.int .i64 (m.tk:Int))/\W.cell? ⟨bb,4,none⟩=some (.int .i64 (m.er:Int))/\W.cell? ⟨bb,5,none⟩=some (.int .i64 (m.ln:Int)):=⟨h.row.cell 0 (by simp),h.row.cell 1 (by simp),h.row.cell 2 (by simp),h.row.cell 3 (by simp),h.row.cell 4 (by simp),h.row.cell 5 (by simp)⟩
theorem mC {L0 W:ax}{bb:Nat}{vf:ay}{fs:List aI}{m:Bm}{b:Bk}(h:cG L0 W bb vf fs m)(a:jF m b)(g:b.cy=0)(e n:Nat):
 Calls prog 106 #[.pointer (some ⟨bb,0,none⟩),.int .i64 (e:Int),.int .i64 (n:Int)] W λx W'=>mW L0 bb vf fs m.os (b.dk e n) W x W' :=by
 obtain⟨-,-,-,-,l,-⟩:=h.cells;have w:=h.row.frozen 4;rw[a.er,g] at l;obtain⟨c,j⟩:=h.aZ 4 m.tk e m.ln e (.inr (.inl ⟨rfl,rfl,rfl,rfl⟩));obtain⟨-,-,-,-,-,r⟩:=c.cells;have q:=c.row.frozen 5;obtain⟨d,i⟩:=c.aZ 5 m.tk e n n (.inr (.inr ⟨rfl,rfl,rfl,rfl⟩));have p:Hid (∀x,mW L0 bb vf fs m.os (b.dk e n) W (.returned x) ((W.setCell ⟨bb,4,none⟩ (dg e)).setCell ⟨bb,5,none⟩ (dg n))):=aB λx=>⟨⟨x,rfl⟩,_,d,⟨a.cK,a.tk,rfl,rfl,a.rs⟩,j.trans i⟩;unfold dg at*;clear c j d i h a g;go_enter func106,ntmps106;go_wp2_with fail
 refine Ua (U' rfl _ _ _) rfl ?_;exact p.u _
def pO (n:Nat)(c:Int)(L a:az):ay:= .agg #[.int .i64 (n:Int),.int .u8 c,.string L,.string a]
