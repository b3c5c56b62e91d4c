/- . -/
import Derived.Test.YtjelacjggijmfaaGreatDoorYMP3
import Derived.Test.YtjelacjggijmfaaGreatDoorYGD9
set_option linter.all false
set_option maxHeartbeats 4000000
set_option maxRecDepth 20000
namespace Go.Proofs.YtjelacjggijmfaaGreatDoor
open Pl Mk Cp Proofs.Tryz
open RowKit
variable {e A:aj}{c o T k nb lo wb bb er U S V:Nat}{a g:fv}{s:St}{p:Sg}{i n q y v v' vN vO vN' vO' R Q vf:az}{j w z:f'}{W wr O L0 W' X:ay}{B:fy}{C:js}{D E:Bool}{F:gb}{G:List (fv)}{H:aj->Nv}{I:Er}{J:ib}{K:Rn}{L:Nat×aj}
structure Ru where
 tg:fv
 nd:fv
 cs:List (aj×Nat)
 cD:Bool
 ph:Bool
def db:Ru:=⟨[],[],[],false,false⟩
structure Bk where
 aX:js
 aG:List Ru
 cF:Nat
 cH:Nat
 cC:Nat
open Classical in
noncomputable def dy(N:aj->Nv) (a:aj):Er:=if h:∃c,b_ N (λ_=>none) [] 0 [] a c then h.choose else⟨[],0,0⟩
def Uw(h:b_ H (λ_=>none) [] 0 [] e I):dy H e=I:=by have c:∃I,b_ H (λ_=>none) [] 0 [] e I:=⟨I,h⟩;unfold dy;rw[dif_pos c];exact b_.mx c.choose_spec h
def V4{L:NL}:dK L e=dy (di L) e:=rfl
def Bk.dH(b:Bk)(e n:Nat):Bk:={b with cH:=e,cC:=n}
def ep(w:aj):Nat:=List.count 37 w
def fu(a:fv):Bool:=a.any λt=>decide (0<ep t)
def pW(a:fv)(t:aj):Bool:=decide (1<ep t)||(decide (0<ep t)&&decide (1<a.length))
def r_(a:Bool)(n:aj):Bool:=decide (1<ep n)||(decide (0<ep n)&& !a)
def oq(a c:fv):Bool:=(decide (a.length=0)||a.any (pW a))||c.any (r_ (fu a))
def gg(a c:fv):Ru:=⟨a,c,[],fu a,decide (a=[s7])⟩
noncomputable def gL(b:Bk) (a c:aj) (n:Nat):Bk:=
 if(dy (nR b.aX) a).er≠0 then b.dH (dy (nR b.aX) a).er n
 else if(dy (nR b.aX) c).er≠0 then b.dH (dy (nR b.aX) c).er n
 else if oq (bQ (dy (nR b.aX) a).bK) (bQ (dy (nR b.aX) c).bK)=true then b.dH 1 n
 else if 64<=b.aG.length then b.dH 5 n
 else {b with aG:=b.aG++[gg (bQ (dy (nR b.aX) a).bK) (bQ (dy (nR b.aX) c).bK)]}
def fD(b:aj)(a:Ru):Bool:=eo b a.tg&&(!a.cD&&(!a.ph&&decide (0<a.cs.length)))
def gh(rs:List Ru)(b:aj)(k:Int):ib:=(List.range rs.length).find? λa=>decide ((a:Int)≠k)&&fD b (rs.getD a db)
def ly(b:Bk):Ru:=b.aG.getD (b.aG.length-1) db
def pL(b:Bk):Bool:=decide ((ly b).cs.length=0)&&(!(ly b).cD&&(ly b).tg.any λt=>(gh b.aG t ((b.aG.length-1:Nat):Int)).isSome)
def lY(b:Bk)(c:aj)(n:Nat):Bk:=
 if pL b=true then b.dH 6 n
 else {b with aG:=b.aG.set (b.aG.length-1) {ly b with cs:=(ly b).cs++[(c,n)]}}
section
variable (rec:Bk->aj->Bk) (can:Bool) (fs:fy)
def jU(b:Bk)(w:aj)(n:Nat):Bk:=match Pl.look fs w with
 |none=>b.dH 2 n
 |some a=>if can=false then b.dH 3 n else if 100<=b.cF then b.dH 5 n else rec {b with cF:=b.cF+1} a.aU
def lh(n:Nat):fv->Bk->Bk
 |[],b=>b
 |w::a,b=>if b.cH≠0 then b else lh n a (jU rec can fs b w n)
noncomputable def nr(b:Bk) (a:aj) (n:Nat):Bk:=if(dy (nR b.aX) a).er≠0 then b.dH (dy (nR b.aX) a).er n else lh rec can fs n (bQ (dy (nR b.aX) a).bK) b
noncomputable def tC(b:Bk) (c a:aj) (n:Nat):Bk:=if(dy (nR b.aX) a).er≠0 then {b.dH (dy (nR b.aX) a).er n with aX:=b.aX++[⟨c,[],true⟩]} else {b with aX:=b.aX++[⟨c,(dy (nR b.aX) a).bK,true⟩]}
noncomputable def gA(b:Bk) (op:Bool) (x:Nat×aj):Bool×Bk:=
 if rk (bD x.2)=0 then(op,b)
 else if rk (bD x.2)=99 then(op,if op=true then lY b (bD x.2).1.right x.1 else b.dH 1 x.1)
 else if rk (bD x.2)=105 then(false,nr rec can fs b (bD x.2).1.right x.1)
 else if rk (bD x.2)=108 then(false,{b with aX:=b.aX++[⟨(bD x.2).1.left,(bD x.2).1.right,false⟩]})
 else if rk (bD x.2)=102 then(false,tC b (bD x.2).1.left (bD x.2).1.right x.1)
 else if rk (bD x.2)=114 then(decide ((gL b (bD x.2).1.left (bD x.2).1.right x.1).cH=0)&& !(ly (gL b (bD x.2).1.left (bD x.2).1.right x.1)).ph,gL b (bD x.2).1.left (bD x.2).1.right x.1)
 else(op,b.dH 1 x.1)
noncomputable def jT:List (Nat×aj)->Bk->Bool->Bk
 |[],b,_=>b
 |x::xs,b,op=>if b.cH≠0 then b else jT xs (gA rec can fs b op x).2 (gA rec can fs b op x).1
end
noncomputable def kC(fs:fy):Nat->Bk->aj->Bk
 |0,b,a=>jT (λb _=>b) false fs (dF a) b false
 |d+1,b,a=>jT (kC fs d) true fs (dF a) b false
def mA:Bk:=⟨[],[],0,0,0⟩
noncomputable def eA(fs:fy) (a:aj):Bk:=match Pl.look fs a with
 |none=>{mA with cH:=2}
 |some c=>kC fs 3 mA c.aU
def dj(a:fv)(n:aj):fv:=if eo n a=true then a else a++[n]
def cW(s a:aj):aj:=match s with
 |[]=>[]
 |c::d=>if c=37 then a++d else c::cW d a
def dz(b:aj)(a:Ru):Bool:=eo b a.tg&&(!a.cD&& !a.ph)
def kK(b:Bk)(a:aj):Bool:=b.aG.any (dz a)
def fW(b:Bk)(c:aj):Bool:=b.aG.any λa=>eo c a.nd&&a.ph
def gB(a b:aj):aj:=
 if b.length<a.length then []
 else if cW a ((b.drop (Mk.bo 37 a).length).take (b.length-a.length+1))=b then(b.drop (Mk.bo 37 a).length).take (b.length-a.length+1) else []
def kF(b:Bk)(a:fy)(n:aj):Bool:=(Pl.look a n).isSome||kK b n
def gV(b:Bk)(d:fy)(c:aj)(a:Ru):Bool:=a.cD&&(decide (0<a.cs.length)&&(decide (gB (a.tg.headD []) c≠[])&&a.nd.all λn=>kF b d (cW n (gB (a.tg.headD []) c))))
structure Nr where
 name:aj
 aH:fv
 gW:ib
 stem:aj
 ph:Bool
def ki(b:Bk)(d:fy)(c:aj):ib:=(List.range b.aG.length).find? λa=>gV b d c (b.aG.getD a db)
def mG(b:Bk)(d:aj)(a:fv):fv:=b.aG.foldl (λa c=>if dz d c=true then c.nd.foldl dj a else a) a
def de(b:Bk)(d:fy)(c:aj):Nr×Bool:=
 if gh b.aG c (-1)=none/\fW b c=false then
  match ki b d c with
  |some a=>(⟨c,mG b c (((b.aG.getD a db).nd.map λn=>cW n (gB ((b.aG.getD a db).tg.headD []) c)).foldl dj []),some a,gB ((b.aG.getD a db).tg.headD []) c,fW b c⟩,true)|none=>(⟨c,mG b c [],none,[],fW b c⟩,kK b c||(fW b c||(Pl.look d c).isSome))
 else(⟨c,mG b c [],gh b.aG c (-1),[],fW b c⟩,kK b c||(fW b c||(Pl.look d c).isSome))
def Ly:Nr:=⟨[],[],none,[],false⟩
structure Wk where
 aT:List (Nr×Bool)
 aY:gb
def jR:Wk:=⟨[],[]⟩
def dG(a:List (Nr×Bool))(n:aj):ib:=a.findIdx? λx=>x.1.name==n
def cA(t:Wk)(a:Nat):Nr×Bool:=t.aT.getD a (Ly,false)
def gx(rec:Wk->aj->Option (Nat×Wk)):fv->Wk->Option (Nat×Wk)
 |[],t=>some (0,t)
 |n::a,t=>match dG t.aT n with
  |none=>match rec t n with
   |none=>none
   |some q=>if q.1≠0 then some q else gx rec a q.2
  |some c=>if(cA t c).2=true then gx rec a t else some (7,t)
def fq(t:Wk)(x:Nr):Wk:=⟨t.aT++[(x,false)],t.aY⟩
def i_(t:Wk)(k:Nat):Wk:=⟨t.aT.set k ((cA t k).1,true),t.aY++[k]⟩
def eH(b:Bk)(a:fy):Nat->Wk->aj->Option (Nat×Wk)
 |0,_,_=>none
 |f+1,t,name=>if(de b a name).2=false then some (8,t)
  else match gx (eH b a f) (de b a name).1.aH (fq t (de b a name).1) with
   |none=>none
   |some q=>some (q.1,i_ q.2 t.aT.length)
def iu(a:fv):Bool:=dc (a.headD [])
def tG(T:List (fv)):gb:=(List.range T.length).filter λa=>iu (T.getD a [])
def mO(t:aj)(c:Nat)(a:fv):gb:=if iu a=true then [] else(a.filter (·==t)).map λ_=>c
def om(T:List (fv))(t:aj):gb:=(List.range T.length).flatMap λa=>mO t a (T.getD a [])
def sf(T:List (fv)):aj:=((T.find? λa=> !iu a).getD []).headD []
variable {u:Nat}
def wO{α:Type}(T:List α)(a d:α)(h:c<T.length):(T++[a]).getD c d=T.getD c d:=by rw[Yf,Yf,Zh h]
def um{α:Type}{T:List α}(a d:α):(T++[a]).getD T.length d=a:=by rw[Yf,YH ax];simp
def GW:tG (G++[a])=tG G++if iu a=true then [G.length] else []:=by
 unfold tG;rw[X4,Yx,List.range_succ,r7];congr 1
 ·exact List.filter_congr λd c=>by rw[wO G a [] (ZX.1 c)]
 rw[x6,um];rfl
theorem Ev{α β:Type}{f c:α->List β}:∀(a:List α),(∀x∈a,f x=c x)->a.flatMap f=a.flatMap c
 |[],_=>rfl|x::a,h=>by rw[YA,YA,h x (Yq ..),Ev a λy d=>h y (Yp _ d)]
def Gb:om (G++[a]) e=om G e++mO e G.length a:=by
 unfold om;rw[X4,Yx,List.range_succ,Zq];congr 1
 ·exact Ev _ λd c=>by rw[wO G a [] (ZX.1 c)]
 rw[List.flatMap_singleton,um]
def Qb(h:∀x∈G,x.headD []≠[]):sf (G++[a])=if sf G=[] then(if iu a=true then [] else a.headD []) else sf G:=by
 unfold sf;rw[List.find?_append];cases c:G.find? λa=> !iu a with
 |none=>rw[adt,Option.getD_none,Yd (show ([]:fv).headD []=[] from rfl),adT];cases iu a<;>rfl
 |some x=>rw[Option.some_or,acq,Yb (h x (YV c))]
def UP(b:UInt8)(a:aj):decide (0<=Lib.index a [b])=decide (0<List.count b a):=by
 have⟨e,d⟩:=wK b a;cases c:a.contains b with
 |true=>rw[e c];have:=aem.2 (by simpa using c);rw[Y6 this,Y6 (by omega)]
 |false=>rw[d c];have:=acP.2 (by simpa using c);rw[Y9 (by omega),Y9 (by omega)]
def wX:dc e=decide (0<ep e):=UP 37 e
def GV:jz e=decide (1<ep e):=rfl
theorem Dc(a q:aj->Bool):∀c:fv,(c.any λt=>a t||q t)=(c.any a||c.any q)
 |[]=>rfl|x::d=>by rw[l9,l9,l9,Dc a q d];cases a x<;>cases q x<;>cases d.any a<;>rfl
theorem B2(a:aj->Bool)(c:Bool):∀e:fv,(e.any λt=>a t&&c)=(e.any a&&c)
 |[]=>rfl|x::d=>by rw[l9,l9,B2 a c d];cases a x<;>cases c<;>cases d.any a<;>rfl
def QB{e:fv}:lJ e g= !oq e g:=by
 have f:e.any (pW e)=(e.any jz||(e.any dc&&decide (1<e.length))):=by rw[<-B2,<-Dc];congr 1;funext t;unfold pW;rw[wX,GV]
 have j:g.any (r_ (fu e))=(g.any jz||(g.any dc&& !e.any dc)):=by
  have:fu e=e.any dc:=by unfold fu;congr 1;funext t;rw[wX]
  rw[<-B2,<-Dc,this];congr 1;funext t;unfold r_;rw[wX,GV]
 unfold lJ oq;rw[f,j];generalize e.any jz=a;generalize e.any dc=b;generalize g.any jz=c;generalize g.any dc=d;generalize e.length=n;cases a<;>cases b<;>cases c<;>cases d<;>by_cases i:n=0<;>by_cases h:n=1<;>simp[i,h]<;>omega
def BO(h:oq a g=false):fu a=iu a/\(fu a=true->∃x,a=[x])/\a≠[]:=by
 unfold oq at h;rw[Y_,Y_]at h;obtain⟨⟨p,i⟩,-⟩:=h;unfold iu;rw[wX];cases a with
 |nil=>simp at p
 |cons x c=>
  rw[l9,Y_]at i;cases c with
  |nil=>exact⟨by simp[fu],λ_=>⟨x,rfl⟩,by simp⟩
  |cons y c=>
   have n:∀z∈x::y::c,¬0<ep z:=λz j d=>by have l:(x::y::c).any (pW (x::y::c))=true:=Z1.2 ⟨z,j,by unfold pW;simp[d]⟩;rw[l9,i.1,i.2]at l;cases l
   have d:fu (x::y::c)=false:=by unfold fu;rw[pe];exact λz j=>by simpa using n z j
   rw[d];exact⟨by simpa using n x (Yq ..),λe=>(by cases e),by simp⟩
theorem xW:∀(i a:aj),∀w∈e_ a i,w≠[]
 |[],a,w,h=>by
  unfold e_ at h;split at h
  ·cases h
  rename_i g;rw[Yc.1 h];exact λe=>g (by rw[e];rfl)
 |c::d,a,w,h=>by
  unfold e_ at h;split at h
  ·split at h
   ·exact xW d [] w h
   rename_i g;obtain rfl|h:=YD.1 h
   ·exact λe=>g (by rw[e];rfl)
   exact xW d [] w h
  exact xW d _ w h
def OH(h:A∈bQ e):A≠[]:=xW e [] A h
theorem JX(k:aj)(v:Nv):∀(L:NL) (n:aj),di (kT L k v) n=if(k==n)=true then v else di L n
 |[],n=>by unfold di kT;rw[adT];cases h:k==n<;>simp
 |x::g,n=>by
  have d:=JX k v g n;unfold di at d⊢;rw[kT];cases c:x.1==k with
  |true=>
   simp only[Z8];rw[Zt,Zt];have e:x.1=k:=by simpa using c
   rw[e];cases h:k==n<;>simp
  |false=>
   simp only[YN,Z4];rw[Zt,Zt (a:=x)];cases h:x.1==n with
   |true=>
    have i:(k==n)=false:=by rw[Yi]at c⊢;intro e;exact c (by rw[e];simpa using h)
    simp[i]
   |false=>exact d
def Vc:∀(c:fv) (x:aj),x∈a.foldl lq c↔x∈c\/x∈a:=by
 induction a with
 |nil=>simp
 |cons y g d=>
  intro c x;rw[YP,d];unfold lq;split
  ·rename_i e;simp only[YD];constructor
   ·rintro(h|h)
    ·exact .inl h
    exact .inr (.inr h)
   rintro(h|rfl|h)
   ·exact .inl h
   ·exact .inl e
   exact .inr h
  rw[Yv,Yc,YD,or_assoc]
theorem JK(a:Nat):∀(c:fv) (s:St),(c.foldl (d' a) s).of=(λt=>s.of t++(c.filter (·==t)).map λ_=>a)/\(c.foldl (d' a) s).aX=s.aX/\(c.foldl (d' a) s).aG=s.aG/\(c.foldl (d' a) s).bJ=s.bJ/\(c.foldl (d' a) s).first=s.first/\(c.foldl (d' a) s).ph=s.ph/\(c.foldl (d' a) s).n=s.n/\(c.foldl (d' a) s).inc=s.inc/\(c.foldl (d' a) s).opn=s.opn
 |[],s=>⟨by funext t;simp,rfl,rfl,rfl,rfl,rfl,rfl,rfl,rfl⟩
 |x::g,s=>by
  have⟨i,h⟩:=JK a g (d' a s x);rw[YP];refine⟨?_,h⟩;rw[i];funext t;show od s.of x (s.of x++[a]) t++_=_;unfold od;rw[x6];by_cases d:t=x
  ·subst d;simp
  have:(x==t)=false:=by simpa using λe=>d e.symm
  simp[d,this]
def ju(a:Ru):Rl:=⟨a.tg,bR a.nd [],a.cs⟩
def dO(rs:List Ru):List Rl:=(rs.filter λa=> !a.ph).map ju
def ft(rs:List Ru):List (fv):=(rs.filter λa=> !a.ph).map (·.tg)
def Kf{rs:List Ru}:(dO rs).map (·.tg)=ft rs:=by unfold dO ft;rw[k6];rfl
def yK{rs:List Ru}:(ft rs).length=(dO rs).length:=by rw[<-Kf,Yk]
def ry(rs:List Ru)(a:Ru):dO (rs++[a])=dO rs++if a.ph=true then [] else [ju a]:=by unfold dO;rw[r7,Yy,x6];cases a.ph<;>rfl
def BR(rs:List Ru)(a:Ru):ft (rs++[a])=ft rs++if a.ph=true then [] else [a.tg]:=by unfold ft;rw[r7,Yy,x6];cases a.ph<;>rfl
structure dL(s:St)(b:Bk):Prop where
 nm:di s.aX=nR b.aX
 rl:s.aG=dO b.aG
 n:s.n=b.aG.length
 jo:b.aG.length<=64
 inc:s.inc=b.cF
 qN:b.cF<=100
 ph:∀x,x∈s.ph↔∃r∈b.aG,r.ph=true/\x∈r.nd
 ru:∀r∈b.aG,r.cD=fu r.tg/\fu r.tg=iu r.tg/\(fu r.tg=true->∃x,r.tg=[x])/\r.tg≠[]/\(∀x∈r.tg,x≠[])/\(r.ph=true->r.cs=[])/\∀n∈r.nd,ep n<=1
 bJ:s.bJ=tG (ft b.aG)
 of:∀t,s.of t=om (ft b.aG) t
 first:s.first=sf (ft b.aG)
 er:b.cH=0/\b.cC=0
def Xc:dL iO mA where
 nm:=rfl
 rl:=rfl
 n:=rfl
 jo:=by decide
 inc:=rfl
 qN:=by decide
 ph x:=by simp[iO,mA]
 ru r h:=by cases h
 bJ:=rfl
 of t:=rfl
 first:=rfl
 er:=⟨rfl,rfl⟩
section
variable {b:Bk}
def dL.zR(h:dL s b)(t:aj):dK s.aX t=dy (nR b.aX) t:=by rw[V4,h.nm]
def dL.tR(h:dL s b)(o:Nat):dL {s with opn:=o} b:=⟨h.nm,h.rl,h.n,h.jo,h.inc,h.qN,h.ph,h.ru,h.bJ,h.of,h.first,h.er⟩
def dL.name(h:dL s b)(c t:aj)(a:Bool):dL {s with aX:=kT s.aX c ⟨t,!a⟩} {b with aX:=b.aX++[⟨c,t,a⟩]}:=by refine⟨?_,h.rl,h.n,h.jo,h.inc,h.qN,h.ph,h.ru,h.bJ,h.of,h.first,h.er⟩;funext n;show di (kT s.aX c ⟨t,!a⟩) n=nR (b.aX++[⟨c,t,a⟩]) n;rw[JX,JG,h.nm]
def WV(c:oq a g=false)(e:∀x∈a,x≠[]):(gg a g).cD=fu (gg a g).tg/\fu (gg a g).tg=iu (gg a g).tg/\(fu (gg a g).tg=true->∃x,(gg a g).tg=[x])/\(gg a g).tg≠[]/\(∀x∈(gg a g).tg,x≠[])/\((gg a g).ph=true->(gg a g).cs=[])/\∀n∈(gg a g).nd,ep n<=1:=⟨rfl,(BO c).1,(BO c).2.1,(BO c).2.2,e,λ_=>rfl,λn h=>by unfold oq at c;have d:=pe.1 (Y_.1 c).2 n h;unfold r_ at d;simp at d;omega⟩
def dL.WD(h:dL s b):∀x∈ft b.aG,x.headD []≠[]:=λx i=>by
 obtain⟨a,e,rfl⟩:=YC.1 i;obtain⟨-,-,-,g,d,-⟩:=h.ru a (Z2.1 e).1;cases c:a.tg with
 |nil=>exact absurd c g
 |cons y j=>exact d y (by rw[c];exact Yq ..)
def dL.kf(h:dL s b)(K:oq a g=false)(P:∀x∈a,x≠[])(hn:b.aG.length<64):
 dL (bA {s with n:=s.n+1} a g).2 {b with aG:=b.aG++[gg a g]}/\(bA {s with n:=s.n+1} a g).1=(if (gg a g).ph=true then none else some (dO b.aG).length)/\(bA {s with n:=s.n+1} a g).2.opn=s.opn:=by
 have B:∀c∈b.aG++[gg a g],c.cD=fu c.tg/\fu c.tg=iu c.tg/\(fu c.tg=true->∃x,c.tg=[x])/\c.tg≠[]/\(∀x∈c.tg,x≠[])/\(c.ph=true->c.cs=[])/\∀n∈c.nd,ep n<=1:=λc q=>by
  obtain q|q:=Yv.1 q
  ·exact h.ru c q
  rw[Yc.1 q];exact WV K P
 have j:(b.aG++[gg a g]).length=b.aG.length+1:=by rw[X4];rfl
 have F:∀(C:fv),(∀x,x∈C↔x∈s.ph\/((gg a g).ph=true/\x∈g))->∀x,x∈C↔∃c∈b.aG++[gg a g],c.ph=true/\x∈c.nd:=λC S x=>by
  rw[S,h.ph];constructor
  ·rintro(⟨c,d,l⟩|d)
   ·exact⟨c,YK _ d,l⟩
   exact⟨_,YQ _ (Yc.2 rfl),d⟩
  rintro⟨c,d,l⟩;obtain d|d:=Yv.1 d
  ·exact .inl ⟨c,d,l⟩
  rw[Yc.1 d]at l;exact .inr l
 have u:=ry b.aG (gg a g);have i:=BR b.aG (gg a g);unfold bA;by_cases z:a=[s7]
 ·have e:(gg a g).ph=true:=Y6 z;rw[Yd z];simp only[e,Z8,ZR]at u i⊢;exact⟨⟨h.nm,by rw[u];exact h.rl,by rw[j,<-h.n],by rw[j];omega,h.inc,h.qN,F _ (λx=>by rw[Vc];simp[e]),B,by rw[i];exact h.bJ,by rw[i];exact h.of,by rw[i];exact h.first,h.er⟩,trivial,trivial⟩
 have e:(gg a g).ph=false:=Y9 z;have D:=F s.ph (λx=>by simp[e]);rw[Yb z];simp only[e,YN,Z4]at u i⊢;have E:s.aG.length=(ft b.aG).length:=by rw[h.rl,yK]
 have G:∀t,om (ft (b.aG++[gg a g])) t=s.of t++mO t s.aG.length a:=λt=>by rw[i,Gb,h.of,E];rfl
 have r:tG (ft (b.aG++[gg a g]))=s.bJ++if iu a=true then [s.aG.length] else []:=by rw[i,GW,h.bJ,E];rfl
 have w:sf (ft (b.aG++[gg a g]))=if s.first=[] then(if iu a=true then [] else a.headD []) else s.first:=by rw[i,Qb h.WD,h.first];rfl
 have H:s.aG++[⟨a,bR g [],[]⟩]=dO (b.aG++[gg a g]):=by rw[u,h.rl];rfl
 by_cases y:dc (a.headD [])=true
 ·have p:iu a=true:=y;rw[Yd y];rw[p]at r w;refine⟨⟨h.nm,H,by rw[j,<-h.n],by rw[j];omega,h.inc,h.qN,D,B,by rw[r];rfl,λt=>?_,?_,h.er⟩,by rw[<-h.rl],rfl⟩
  ·rw[G];unfold mO;rw[Yd p,ZR]
  rw[w];split
  ·rename_i m;exact m
  rfl
 have p:iu a=false:=ab_.2 y;rw[Yb y];rw[p]at r w;unfold mD;generalize R:(if ({s with n:=s.n+1,aG:=s.aG++[⟨a,bR g [],[]⟩]}:St).first=[] then {({s with n:=s.n+1,aG:=s.aG++[⟨a,bR g [],[]⟩]}:St)with first:=a.headD []} else {s with n:=s.n+1,aG:=s.aG++[⟨a,bR g [],[]⟩]})=f;have V:f.aX=s.aX/\f.aG=s.aG++[⟨a,bR g [],[]⟩]/\f.bJ=s.bJ/\f.of=s.of/\f.ph=s.ph/\f.n=s.n+1/\f.inc=s.inc/\f.opn=s.opn/\f.first=if s.first=[] then a.headD [] else s.first:=by
  rw[<-R];by_cases A:s.first=[]
  ·rw[Yd A,Yd A];exact⟨rfl,rfl,rfl,rfl,rfl,rfl,rfl,rfl,rfl⟩
  rw[Yb A,Yb A];exact⟨rfl,rfl,rfl,rfl,rfl,rfl,rfl,rfl,rfl⟩
 have⟨a1,U,o,O,M,X,J,I,v⟩:=V;have⟨Y,T,L,W,Z,k,Q,b8,N⟩:=JK s.aG.length a f;refine⟨⟨by rw[T,a1];exact h.nm,by rw[L,U];exact H,by rw[Q,X,j,h.n],by rw[j];omega,by rw[b8,J];exact h.inc,h.qN,by rw[k,M];exact D,B,by rw[W,o,r];simp,λt=>?_,?_,h.er⟩,by rw[<-h.rl],by rw[N,I]⟩
 ·rw[G,Y,O];unfold mO;rw[p];rfl
 rw[Z,v,w];rfl
end
def wa(b:Bk)(d:ib)(o:Bool):Prop:=(o=false/\d=none)\/(o=true/\∃c a,b.aG=c++[a]/\a.ph=false/\d=some (dO c).length)
def V1{rs:List Ru}(y:s.aG=dO rs)(w:s.of e=om (ft rs) e)(j:∀a∈rs,a.cD=fu a.tg/\fu a.tg=iu a.tg):((s.of e).any (lD s))=rs.any (fD e):=by
 have d:((s.of e).any (lD s))=true↔rs.any (fD e)=true:=by
  rw[Z1,Z1];constructor
  ·rintro⟨L,d,t⟩;rw[w]at d;unfold om at d;have⟨c,n,i⟩:=x'.1 d;have h:c<(dO rs).length:=by rw[<-yK];exact ZX.1 n
   unfold mO at i;split at i
   ·cases i
   rename_i l;have⟨x,u,g⟩:=YC.1 i;subst g;have⟨g,H⟩:=Z2.1 u;have E:x=e:=by simpa using H
   subst E;unfold lD at t;rw[y,X9 h]at t;have r:=Ym h;have J:(ft rs).getD c []=((dO rs)[c]).tg:=by rw[<-Kf,Yf,Za,X9 h];rfl
   rw[J]at l g;generalize (dO rs)[c]=q at r l g t;unfold dO at r;obtain⟨a,B,rfl⟩:=YC.1 r;have⟨p,G⟩:=Z2.1 B;refine⟨a,p,?_⟩;unfold fD eo;have f:a.cD=false:=by rw[(j a p).1,(j a p).2];exact ab_.2 l
   have b:a.ph=false:=by simpa using G
   have k:decide (x∈a.tg)=true:=Y6 g;have I:decide (0<a.cs.length)=true:=t;rw[f,b,k,I];rfl
  rintro⟨a,d,t⟩;unfold fD eo at t;simp only[Zn,R4,Zy]at t;have⟨n,i,u,g⟩:=t;have A:a∈rs.filter λa=> !a.ph:=Z2.2 ⟨d,by rw[u];rfl⟩;have⟨c,h,z⟩:=ZD A;have K:c<(ft rs).length:=by unfold ft;rw[Yk];exact h
  have D:(ft rs).getD c []=a.tg:=by unfold ft;rw[Yf,Za,X9 h,z];rfl
  refine⟨c,?_,?_⟩
  ·rw[w];unfold om;refine x'.2 ⟨c,ZX.2 K,?_⟩;rw[D];unfold mO;rw[Yb (by rw[<-(j a d).2,<-(j a d).1,i];exact aen)];exact YC.2 ⟨e,Z2.2 ⟨n,by simp⟩,rfl⟩
  unfold lD;rw[y];have:(dO rs)[c]?=some (ju a):=by unfold dO;rw[Za,X9 h,z];rfl
  rw[this];exact Y6 g
 cases F:(s.of e).any (lD s)<;>cases C:rs.any (fD e)<;>rw[F,C]at d<;>simp at d<;>rfl
def QF(rs:List Ru)(t:aj)(k:Nat)(h:fD t (rs.getD k db)=false):(gh rs t (k:Int)).isSome=rs.any (fD t):=by
 unfold gh;have c:((List.range rs.length).find? λ(a:Nat)=>decide ((a:Int)≠k)&&fD t (rs.getD a db)).isSome=true↔rs.any (fD t)=true:=by
  rw[List.find?_isSome,Z1];constructor
  ·rintro⟨a,c,d⟩;have g:=ZX.1 c;rw[Zn]at d;refine⟨_,Ym g,?_⟩;have:=d.2;rwa [Yf,X9 g]at this
  rintro⟨l,c,d⟩;obtain⟨a,g,rfl⟩:=ZD c;have e:rs.getD a db=rs[a]:=by rw[Yf,X9 g];rfl
  refine⟨a,ZX.2 g,?_⟩;rw[e,d,X'];refine Y6 λq=>?_;have:a=k:=by omega
  subst this;rw[e,d]at h;cases h
 cases j:((List.range rs.length).find? λ(a:Nat)=>decide ((a:Int)≠k)&&fD t (rs.getD a db)).isSome<;>cases i:rs.any (fD t)<;>rw[j,i]at c<;>simp at c<;>rfl
variable {l:List Ru}{d:Ru}
section
variable {b:Bk}
def A4(h:b.aG=l++[d]):ly b=d/\b.aG.length-1=l.length:=by
 have e:b.aG.length-1=l.length:=by rw[h,X4];rfl
 refine⟨?_,e⟩;unfold ly;rw[e,h,um]
def dL.WG(h:dL s b)(i:b.aG=l++[d]):(d.cs.length=0/\(d.tg.any λt=>(s.of t).any (lD s))=true)↔pL b=true:=by
 have⟨k,f⟩:=A4 i;have c:d∈b.aG:=by rw[i];exact YQ _ (Yc.2 rfl)
 have z:∀t,(s.of t).any (lD s)=b.aG.any (fD t):=λt=>V1 h.rl (h.of t) λd c=>⟨(h.ru d c).1,(h.ru d c).2.1⟩;unfold pL;rw[k,f];simp only[z];by_cases g:d.cs.length=0
 ·have r:∀t,fD t (b.aG.getD l.length db)=false:=λt=>by
   rw[i,um];unfold fD;rw[Y9 (by omega)];simp
  have:(d.tg.any λt=>(gh b.aG t (l.length:Int)).isSome)=d.tg.any λt=>b.aG.any (fD t):=by congr 1;funext t;exact QF b.aG t l.length (r t)
  rw[this,Y6 g,Z7];cases y:d.cD with
  |false=>simp[g]
  |true=>
   obtain⟨a,A,p,-⟩:=h.ru d c;rw[y]at a;have⟨x,n⟩:=p a.symm;have:(d.tg.any λt=>b.aG.any (fD t))=false:=by rw[n,l9,List.any_nil,X2,pe];intro q w e;unfold fD eo at e;simp only[Zn,R4,Zy]at e;have j:=(h.ru q w).1;rw[e.2.1]at j;unfold fu at j a;rw[n]at a;have u:=pe.1 j.symm x e.1;simp at a u;omega
   rw[this];simp
 rw[Y9 g];simp[g]
def dL.dg(h:dL s b)(i:b.aG=l++[d])(j:d.ph=false)(c:aj×Nat):
 dL {s with aG:=s.aG.set (dO l).length {ju d with cs:=(ju d).cs++[c]}} {b with aG:=b.aG.set l.length {d with cs:=d.cs++[c]}}/\b.aG.set l.length {d with cs:=d.cs++[c]}=l++[{d with cs:=d.cs++[c]}]:=by
 have e:b.aG.set l.length {d with cs:=d.cs++[c]}=l++[{d with cs:=d.cs++[c]}]:=by rw[i,Zc _ _ ax];simp
 have er:s.aG=dO l++[ju d]:=by rw[h.rl,i,ry,j];rfl
 have r:ft (b.aG.set l.length {d with cs:=d.cs++[c]})=ft b.aG:=by rw[e,i,BR,BR]
 refine⟨⟨h.nm,?_,?_,?_,h.inc,h.qN,λx=>?_,λq D=>?_,?_,λt=>?_,?_,h.er⟩,e⟩
 ·show s.aG.set (dO l).length _=dO (b.aG.set l.length _);rw[e,er,ry,Zc _ _ ax];show _=_++(if d.ph=true then _ else _);rw[j];simp[ju]
 ·show s.n=(b.aG.set l.length _).length;rw[Y7];exact h.n
 ·show(b.aG.set l.length _).length<=64;rw[Y7];exact h.jo
 ·show x∈s.ph↔∃q∈b.aG.set l.length _,_;rw[h.ph,e,i];constructor
  ·rintro⟨q,a,g,p⟩;obtain a|a:=Yv.1 a
   ·exact⟨q,YK _ a,g,p⟩
   rw[Yc.1 a,j]at g;cases g
  rintro⟨q,a,g,p⟩;obtain a|a:=Yv.1 a
  ·exact⟨q,YK _ a,g,p⟩
  rw[Yc.1 a]at g;have:d.ph=true:=g;rw[j]at this;cases this
 ·have u:q∈b.aG.set l.length {d with cs:=d.cs++[c]}:=D;rw[e]at u;obtain a|a:=Yv.1 u
  ·exact h.ru q (by rw[i];exact YK _ a)
  rw[Yc.1 a];obtain⟨z,B,w,y,A,-,C⟩:=h.ru d (by rw[i];exact YQ _ (Yc.2 rfl));exact⟨z,B,w,y,A,λq=>(by have:d.ph=true:=q;rw[j]at this;cases this),C⟩
 ·show s.bJ=tG (ft (b.aG.set l.length _));rw[r];exact h.bJ
 ·show s.of t=om (ft (b.aG.set l.length _)) t;rw[r];exact h.of t
 show s.first=sf (ft (b.aG.set l.length _));rw[r];exact h.first
def iT(o:Nat)(a:Nat×Nat×St)(q:Bk):Prop:=a.1=q.cH/\(a.1≠0->a.2.1=q.cC)/\(a.1=0->dL a.2.2 q/\a.2.2.opn=o)
def iT.im(a:St)(h:c≠0):iT T (c,o,a) (b.dH c o):=⟨rfl,λ_=>rfl,λq=>absurd q h⟩
variable {rec:St->aj->Nat×Nat×St}{M:Bk->aj->Bk}{can:Bool}{fs:fy}
def zv(rec:St->aj->Nat×Nat×St)(M:Bk->aj->Bk)(a:Bool)(o:Nat):Prop:=(a=false/\o=3)\/(a=true/\o<3/\∀s b t,dL s b->s.opn=o+1->iT (o+1) (rec s t) (M b t))
def R0(a:zv rec M can o)(h:dL s b)(r:s.opn=o)(w:aj)(n:Nat):iT o (iJ rec fs s w n) (jU M can fs b w n):=by
 unfold iJ jU;cases Pl.look fs w with
 |none=>exact iT.im _ (by decide)
 |some p=>
  obtain⟨c,j⟩|⟨c,j,a⟩:=a
  ·simp only;rw[Yd (show s.opn=3 by omega),Yd c];exact iT.im _ (by decide)
  simp only;rw[Yb (show ¬s.opn=3 by omega),Yb (show ¬can=false by rw[c];decide)];by_cases g:s.inc=100
  ·rw[Yd g,Yd (by rw[<-h.inc];omega)];exact iT.im _ (by decide)
  rw[Yb g,Yb (by have:=h.qN;rw[<-h.inc]at this⊢;omega)];have q:dL {s with inc:=s.inc+1,opn:=s.opn+1} {b with cF:=b.cF+1}:=⟨h.nm,h.rl,h.n,h.jo,by show s.inc+1=b.cF+1;rw[h.inc],by show b.cF+1<=100;have:=h.qN;rw[<-h.inc]at this⊢;omega,h.ph,h.ru,h.bJ,h.of,h.first,h.er⟩;have⟨i,l,d⟩:=a _ _ p.aU q (by show s.opn+1=o+1;omega);exact⟨i,l,λe=>⟨(d e).1.tR _,by show _-1=o;rw[(d e).2];omega⟩⟩
theorem Hm(i:zv rec M can o)(n:Nat):∀(a:fv) (s:St) (b:Bk),dL s b->s.opn=o->iT o (lj rec fs n a s) (lh M can fs n a b)
 |[],s,b,h,d=>⟨h.er.1.symm,λe=>absurd rfl e,λ_=>⟨h,d⟩⟩
 |w::a,s,b,h,d=>by
  have⟨j,l,g⟩:=R0 (fs:=fs) i h d w n;unfold lj lh;rw[Yb (show ¬b.cH≠0 from λe=>e h.er.1)];by_cases c:(iJ rec fs s w n).1=0
  ·rw[Yb (λe=>e c)];exact Hm i n a _ _ (g c).1 (g c).2
  rw[Yd c];have:lh M can fs n a (jU M can fs b w n)=jU M can fs b w n:=by
   cases a with
   |nil=>rfl|cons x xs=>unfold lh;rw[Yd (by rw[<-j];exact c)]
  rw[this];exact⟨j,l,g⟩
def Nh(g:zv rec M can o)(h:dL s b)(d:s.opn=o)(c:Ln):iT o (lH rec fs s c) (nr M can fs b c.right c.eK):=by
 unfold lH nr;rw[h.zR];by_cases a:(dy (nR b.aX) c.right).er=0
 ·rw[Yb (λe=>e a),Yb (λe=>e a)];exact Hm g _ _ _ _ h d
 rw[Yd a,Yd a];exact iT.im _ a
def RX(h:dL s b)(u:s.opn=o)(a:Ln):iT o ((gJ s a).1,a.eK,(gJ s a).2.2) (gL b a.left a.right a.eK)/\((gJ s a).1=0->wa (gL b a.left a.right a.eK) (gJ s a).2.1 (decide ((gL b a.left a.right a.eK).cH=0)&& !(ly (gL b a.left a.right a.eK)).ph)):=by
 unfold gJ gL;rw[h.zR,h.zR];by_cases d:(dy (nR b.aX) a.left).er=0
 ·have i:¬(dy (nR b.aX) a.left).er≠0:=λe=>e d;rw[Yb i,Yb i];by_cases c:(dy (nR b.aX) a.right).er=0
  ·have j:¬(dy (nR b.aX) a.right).er≠0:=λe=>e c;rw[Yb j,Yb j];rw[QB];cases w:oq (bQ (dy (nR b.aX) a.left).bK) (bQ (dy (nR b.aX) a.right).bK) with
   |true=>rw[Yd (show (!true)=false from rfl),Yd (show true=true from rfl)];exact⟨iT.im _ (T9 _),λe=>(by cases e)⟩
   |false=>
    rw[Yb (show ¬(!false)=false from Bool.noConfusion),Yb (show ¬false=true from Bool.noConfusion)];by_cases g:s.n=64
    ·rw[Yd g,Yd (by rw[<-h.n];omega)];exact⟨iT.im _ (T9 _),λe=>(by cases e)⟩
    have p:b.aG.length<64:=by have:=h.jo;rw[<-h.n]at this⊢;omega
    rw[Yb g,Yb (by omega)];have⟨l,A,q⟩:=h.kf w (λx y=>OH y) p;refine⟨⟨h.er.1.symm,λe=>absurd rfl e,λ_=>⟨l,q.trans u⟩⟩,λ_=>?_⟩;obtain⟨f,-⟩:=A4 (b:={b with aG:=b.aG++[gg (bQ (dy (nR b.aX) a.left).bK) (bQ (dy (nR b.aX) a.right).bK)]}) rfl;rw[f];show wa _ (bA _ _ _).1 _;rw[A];cases r:(gg (bQ (dy (nR b.aX) a.left).bK) (bQ (dy (nR b.aX) a.right).bK)).ph with
    |true=>exact .inl ⟨by simp,rfl⟩
    |false=>exact .inr ⟨by simp[h.er.1],_,_,rfl,r,rfl⟩
  rw[Yd c,Yd c];exact⟨iT.im _ c,λe=>absurd e c⟩
 rw[Yd d,Yd d];exact⟨iT.im _ d,λe=>absurd e d⟩
def NF(h:dL s b)(q:s.opn=o)(a:Ln)(n:wa b J D):iT o ((gH s J a).1,a.eK,(gH s J a).2) (if D=true then lY b a.right a.eK else b.dH 1 a.eK)/\((gH s J a).1=0->wa (if D=true then lY b a.right a.eK else b.dH 1 a.eK) J D):=by
 obtain⟨rfl,rfl⟩|⟨rfl,l,g,c,i,rfl⟩:=n
 ·exact⟨iT.im _ (T9 _),λe=>(by cases e)⟩
 rw[Yd rfl];have⟨k,f⟩:=A4 c;have er:s.aG[(dO l).length]?=some (ju g):=by rw[h.rl,c,ry,i,YH ax];simp
 unfold gH lY;simp only[er];have j:((ju g).cs.length=0/\((ju g).tg.any λt=>(s.of t).any (lD s))=true)↔pL b=true:=h.WG c;rw[k,f];by_cases d:pL b=true
 ·rw[Yd (j.2 d),Yd d];exact⟨iT.im _ (T9 _),λe=>(by cases e)⟩
 rw[Yb (λe=>d (j.1 e)),Yb d];have⟨r,p⟩:=h.dg c i (a.right,a.eK);exact⟨⟨h.er.1.symm,λe=>absurd rfl e,λ_=>⟨r,q⟩⟩,λ_=> .inr ⟨rfl,l,_,p,i,rfl⟩⟩
def Fs(h:dL s b)(g:s.opn=o)(a:Ln):iT o ((iF s a).1,a.eK,(iF s a).2) (if a.cK=4 then {b with aX:=b.aX++[⟨a.left,a.right,false⟩]} else tC b a.left a.right a.eK):=by
 unfold iF;by_cases d:a.cK=4
 ·rw[Yd d,Yd d];exact⟨h.er.1.symm,λe=>absurd rfl e,λ_=>⟨h.name a.left a.right false,g⟩⟩
 rw[Yb d,Yb d,h.zR];unfold tC;by_cases c:(dy (nR b.aX) a.right).er=0
 ·rw[Yb (λe=>e c)];exact⟨c.trans h.er.1.symm,λe=>absurd c e,λ_=>⟨h.name a.left _ true,g⟩⟩
 rw[Yd c];exact⟨rfl,λ_=>rfl,λe=>absurd e c⟩
def EL{c:List (Nat×aj)}(h:b.cH≠0):jT M can fs c b D=b:=by
 cases c with
 |nil=>rfl|cons y a=>unfold jT;rw[Yd h]
theorem yu(l:zv rec M can o):∀(xs:List (Nat×aj)) (s:St) (b:Bk) (op:ib) (x:Bool),dL s b->s.opn=o->wa b op x->iT o (iQ rec fs (eO xs) s op) (jT M can fs xs b x)
 |[],s,b,op,x,h,g,_=>⟨h.er.1.symm,λe=>absurd rfl e,λ_=>⟨h,g⟩⟩
 |(n,w)::xs,s,b,op,x,h,g,r=>by
  have z:=(wM w).2.2;have u:=Q7 w;unfold jT gA eO;rw[Yb (show ¬b.cH≠0 from λe=>e h.er.1)];simp only;generalize B:bD w=d at z u⊢;have⟨a,e⟩:=d;simp only at z u⊢;unfold rk;simp only;by_cases p:e=0
  ·subst p;have k:((0:Nat)==0)=true:=rfl;simp only[k,Z8,Z7];by_cases c:a.cK=0
   ·simp only[c,show ((0:Nat)==0)=true from rfl,Z8];exact yu l xs s b op x h g r
   have gk:(a.cK==0)=false:=by simpa using c
   simp only[gk,YN,Z4];unfold iQ;rw[Yb (show ¬((({a with eK:=n}:Ln),0):Ln×Nat).2≠0 from λe=>e rfl)];unfold eW;simp only;have f:∀(d:Nat×Nat×ib×St) (q:Bk) (y:Bool),iT o (d.1,d.2.1,d.2.2.2) q->(d.1=0->wa q d.2.2.1 y)->iT o (if d.1≠0 then(d.1,d.2.1,d.2.2.2) else iQ rec fs (eO xs) d.2.2.2 d.2.2.1) (jT M can fs xs q y):=λd q y j A=>by
    by_cases i:d.1=0
    ·rw[Yb (λe=>e i)];exact yu l xs _ _ _ _ (j.2.2 i).1 (j.2.2 i).2 (A i)
    rw[Yd i,EL (by have:=j.1;simp only at this;rw[<-this];exact i)];exact j
   rcases(show a.cK=1\/a.cK=2\/a.cK=3\/a.cK=4\/a.cK=5 by omega)with c|c|c|c|c
   ·simp only[c,Z8];have:=NF h g {a with eK:=n} r;exact f (_,_,_,_) _ _ this.1 this.2
   ·simp only[c];exact f (_,_,_,_) _ _ (Nh l h g {a with eK:=n}) (λ_=> .inl ⟨rfl,rfl⟩)
   ·simp only[c];have:=Fs h g {a with eK:=n};rw[Yb (show ¬({a with eK:=n}:Ln).cK=4 by show ¬a.cK=4;omega)]at this;simp only[c]at this;exact f (_,_,_,_) _ _ this (λ_=> .inl ⟨rfl,rfl⟩)
   ·simp only[c];have:=Fs h g {a with eK:=n};rw[Yd (show ({a with eK:=n}:Ln).cK=4 from c)]at this;simp only[c]at this;exact f (_,_,_,_) _ _ this (λ_=> .inl ⟨rfl,rfl⟩)
   simp only[c];have:=RX h g {a with eK:=n};exact f (_,_,_,_) _ _ this.1 this.2
  have k:(e==0)=false:=by simpa using p
  simp only[k,qs,YN,Z4];unfold iQ;rw[Yd (show ((({a with eK:=n}:Ln),e):Ln×Nat).2≠0 from p)];have m:e=1:=by omega
  subst m;simp only;rw[EL (by show(1:Nat)≠0;decide)];exact iT.im _ (by decide)
end
theorem IT(j:fy):∀(d:Nat) (s:St) (b:Bk) (t:aj),dL s b->s.opn+d=3->iT s.opn (jE j d s t) (kC j d b t)
 |0,s,b,t,h,c=>by unfold jE kC;exact yu (.inl ⟨rfl,by omega⟩) _ _ _ _ _ h rfl (.inl ⟨rfl,rfl⟩)|d+1,s,b,t,h,c=>by unfold jE kC;refine yu (.inr ⟨rfl,by omega,λa f g e i=>?_⟩) _ _ _ _ _ h rfl (.inl ⟨rfl,rfl⟩);rw[<-i];exact IT j d a f g e (by omega)
def Gc(b:fy)(a:aj):(cX b a).1=(eA b a).cH/\((cX b a).1≠0->(cX b a).2.1=(eA b a).cC)/\((cX b a).1=0->dL (cX b a).2.2 (eA b a)):=by
 unfold cX eA;cases Pl.look b a with
 |none=>exact⟨rfl,λ_=>rfl,λe=>(by cases e)⟩
 |some c=>have⟨g,d,h⟩:=IT b 3 iO mA c.aU Xc rfl;exact⟨g,d,λe=>(h e).1⟩
def CV(c:UInt8):((c.toNat:Int)==37)=(c==37):=by
 by_cases h:c=37
 ·subst h;rfl
 have a:(c==37)=false:=by simpa using h
 rw[a,Yi];intro e;exact h (by rw[<-p7];exact G4 e)
def Uf(s:aA)(k:Nat)(h:k<s.size):ep (s.data.toList.take (k+1))=ep (s.data.toList.take k)+if(s[k]'h==37)=true then 1 else 0:=by rw[sN s k h];unfold ep;rw[aey,List.count_singleton]
def MZ(s:aA)(w:ay)(B:s.size<=1073741824):
 Calls prog 152 #[.string s] w λe j=>e=.returned (ι (ep s.data.toList:Int))/\j =w:=by
 go_in;go_wp2
 go_loopw [3,4] (λl y wr=>∃k:Nat,k<=s.size/\y=ι k/\l=ι (ep (s.data.toList.take k):Int)/\wr=w) (λ_ r _=>s.size-(intOf r).toNat)
 case atStart=>exact⟨0,Yh _,rfl,rfl,rfl⟩
 obtain⟨k,z,rfl,rfl,n⟩:=hrel;subst n;have:ep (s.data.toList.take k)<=k:=Ye List.count_le_length (by rw[YL];omega);by_cases c:k<s.size
 ·have h:=aC (Uf s k c);have g:=aC (CV (s[k]'c));generalize ep (s.data.toList.take k)=i at*;cases a:(s[k]'c)==37 with
  |true=>
   have:=g.trans a;have d:Hid (ep (s.data.toList.take (k+1))=i+1):=by show _=_;rw[h.u,a];rfl
   go_wp2
   go_roundw
   case rel=>exact⟨k+1,by omega,by go_num,by rw[d.u];go_num,trivial⟩
   simp[intOf];omega
  |false=>
   have:=g.trans a;have d:Hid (ep (s.data.toList.take (k+1))=i):=by show _=_;rw[h.u,a];rfl
   go_wp2
   go_roundw
   case rel=>exact⟨k+1,by omega,by go_num,by rw[d.u],trivial⟩
   simp[intOf];omega
 have d:Hid (ep (s.data.toList.take k)=ep s.data.toList):=by
  show _=_;rw[YF (by have:=(aC (YJ s)).u;omega)]
 generalize ep (s.data.toList.take k)=i at*;go_wp2
 go_ret;exact⟨by rw[<-d.u];rfl,rfl⟩
theorem Ge:∀(a:aj) (k:Nat) (d:aj),(a.take k).contains 37=false->∀h:k<a.length,a[k]=37->cW a d=a.take k++d++a.drop (k+1)
 |[],_,_,_,h,_=>by cases h
 |c::j,0,d,_,_,i=>by have n:c=37:=i;unfold cW;rw[Yd n];simp
 |c::j,k+1,d,g,h,i=>by
  rw[ZY,Zk,Y_]at g;have l:¬c=37:=λe=>by rw[e]at g;simp at g
  unfold cW;rw[Yb l,Ge j k d g.2 (by simpa using h) (by simpa using i)];simp
theorem GP:∀(d a:aj),d.contains 37=false->cW d a=d
 |[],_,_=>rfl
 |c::g,a,h=>by
  rw[Zk,Y_]at h;have i:¬c=37:=λe=>by rw[e]at h;simp at h
  unfold cW;rw[Yb i,GP g a h.2]
def Xt{s a:aA}:s.extract 0 k++a++s.extract (k+1) s.size=⟨(s.data.toList.take k++a.data.toList++s.data.toList.drop (k+1)).toArray⟩:=by rw[ue,ue,YJ,YR];apply ByteArray.ext;simp
def Hz(s:aA)(k:Nat)(h:k<s.size):(s.data.toList.take (k+1)).contains 37=((s.data.toList.take k).contains 37||(s[k]'h==37)):=by rw[sN s k h,List.contains_append];congr 1;rw[Zk,adm,X2];exact BEq.comm
def Ez(s g:aA)(w:ay)(B:s.size<=1073741824)(C:g.size<=1073741824):
 Calls prog 153 #[.string s,.string g] w λe r=>e=.returned (.string ⟨(cW s.data.toList g.data.toList).toArray⟩)/\μ w r:=by
 have i:=aC (YJ s);go_in;go_wp2_with fail
 go_loopw [5] (λz wr=>∃k:Nat,k<=s.size/\z=ι k/\Hid ((s.data.toList.take k).contains 37=false)/\wr=w) (λy _=>s.size-(intOf y).toNat)
 case atStart=>exact⟨0,Yh _,rfl,rfl,rfl⟩
 obtain⟨k,D,rfl,j,p⟩:=hrel;subst p;by_cases a:k<s.size
 ·have l:=aC (Hz s k a);have h:=aC (CV (s[k]'a));cases c:(s[k]'a)==37 with
  |true=>
   have q:=h.u.trans c;have n:s.data.toList[k]'(by have:=i.u;omega)=37:=(show s[k]'a=37 by simpa using c);have d:=aC (Ge _ k g.data.toList j.u (by have:=i.u;omega) n)
   go_wp2_with fail
   go_quiet (fail)
   go_wp2_with fail
   go_ret;exact⟨by rw[d.u,<-Xt];rfl,Below.drewN (X5 _ _) _⟩
  |false=>
   have q:=h.u.trans c;have d:Hid ((s.data.toList.take (k+1)).contains 37=false):=by show _=_;rw[l.u,c,j.u];rfl
   go_wp2_with fail
   go_roundw
   case rel=>exact⟨k+1,by omega,by go_num,d,trivial⟩
   simp[intOf];omega
 have d:Hid (cW s.data.toList g.data.toList=s.data.toList):=(GP _ _ (by
  have:=j.u;rwa [YF (by have:=i.u;omega)]at this))
 go_wp2_with fail
 go_ret;exact⟨by rw[d.u];rfl,X5 _ _⟩
theorem EV:∀(d:aj) (k:Nat),(d.take k).contains 37=false->∀h:k<d.length,d[k]=37->(Mk.bo 37 d).length=k
 |[],_,_,h,_=>by cases h
 |c::i,0,_,_,g=>by have p:c=37:=g;subst p;simp[Mk.bo]
 |c::i,k+1,a,h,g=>by
  rw[ZY,Zk,Y_]at a;have l:¬c=37:=λe=>by rw[e]at a;simp at a
  have n:(c==37)=false:=by simpa using l
  have j:=EV i k a.2 (by simpa using h) (by simpa using g);unfold Mk.bo at j⊢;rw[ZF,n];simpa using j
theorem AQ:∀(a:aj),a.contains 37=true->(Mk.bo 37 a).length<a.length
 |[],h=>by cases h
 |c::g,h=>by
  unfold Mk.bo;rw[ZF];cases d:c==37 with
  |true=>simp
  |false=>
   have i:((37:UInt8)==c)=false:=by rw[Yi]at d⊢;exact λe=>d e.symm
   rw[Zk,i,l8]at h;have:=AQ g h;unfold Mk.bo at this;simpa using this
def PK(h:e.contains 37=true):e[(Mk.bo 37 e).length]'(AQ e h)=37:=by
 induction e with
 |nil=>cases h
 |cons c g i=>
  cases a:c==37 with
  |true=>
   have:Mk.bo 37 (c::g)=[]:=by unfold Mk.bo;rw[ZF,a];rfl
   simp only[this];simpa using a
  |false=>
   have j:((37:UInt8)==c)=false:=by rw[Yi]at a⊢;exact λd=>a d.symm
   have l:g.contains 37=true:=by rw[Zk,j,l8]at h;exact h
   have:Mk.bo 37 (c::g)=c::Mk.bo 37 g:=by unfold Mk.bo;rw[ZF,a];rfl
   simp only[this];simpa using i l
def NW(a s:aA)(w:ay)(b:a.size<=1073741824)(m:s.size<=1073741824)(G:a.data.toList.contains 37=true):
 Calls prog 112 #[.string a,.string s] w λe y=>e=.returned (.string ⟨(gB a.data.toList s.data.toList).toArray⟩)/\μ w y:=by
 have R:=aC (YJ a);have D:=AQ _ G;rw[<-YJ]at D;have E:=aC (PK G);have I:=aC (λk j l S=>EV a.data.toList k j l S);have d:Hid (gB a.data.toList s.data.toList=if s.data.toList.length<a.data.toList.length then [] else if cW a.data.toList ((s.data.toList.drop (Mk.bo 37 a.data.toList).length).take (s.data.toList.length-a.data.toList.length+1))=s.data.toList then(s.data.toList.drop (Mk.bo 37 a.data.toList).length).take (s.data.toList.length-a.data.toList.length+1) else []):=rfl;rw[<-YJ s,<-YJ a]at d;generalize gB a.data.toList s.data.toList=p at*;go_in;go_wp2_with fail
 go_loopw [5] (λU wr=>∃k:Nat,k<=(Mk.bo 37 a.data.toList).length/\U=ι k/\Hid ((a.data.toList.take k).contains 37=false)/\wr=w) (λf _=>a.size-(intOf f).toNat)
 case atStart=>exact⟨0,Yh _,rfl,rfl,rfl⟩
 obtain⟨k,Z,rfl,A,L⟩:=hrel;subst L;have g:k<a.size:=by omega
 have r:=aC (Hz a k g);have i:=aC (CV (a[k]'g));cases c:(a[k]'g)==37 with
 |false=>
  have:=i.u.trans c;have P:Hid ((a.data.toList.take (k+1)).contains 37=false):=by show _=_;rw[r.u,c,A.u];rfl
  have:k≠(Mk.bo 37 a.data.toList).length:=λe=>by
   have j:=E.u;have l:(a[k]'g)=37:=by simp only[<-e]at j;exact j
   rw[l]at c;cases c
  clear r i c;go_wp2_with fail
  go_roundw
  case rel=>exact⟨k+1,by omega,by go_num,P,trivial⟩
  simp[intOf];omega
 |true=>
  have:=i.u.trans c;have F:=I.u k A.u (by have:=R.u;omega) (show a[k]'g=37 by simpa using c);rw[F]at d;clear r i c E I F Z A D;by_cases q:s.size<a.size
  ·have HR:Hid (p=[]):=by show _=_;rw[d.u,Yd q]
   have:(s.size:Int)-(a.size:Int)+1<1:=by omega
   go_wp2_with fail
   go_ret;exact⟨by rw[HR.u];rfl,X5 _ _⟩
  obtain⟨n,J⟩:∃n,n=s.size-a.size+1:=⟨_,rfl⟩;rw[<-J]at d;have:(s.size:Int)-(a.size:Int)+1=(n:Int):=by omega
  have:¬(n:Int)<1:=by omega
  have B:s.extract k (k+n)=⟨((s.data.toList.drop k).take n).toArray⟩:=by rw[ue,ac2];congr 3;exact ZP k n
  have M:=aC B;have z:=λW=>Ez a (s.extract k (k+n)) W b (by simp only[N9];omega);have H:(s.extract k (k+n)).data.toList=(s.data.toList.drop k).take n:=by rw[B]
  rw[H]at z;have K:Hid (∀W,Calls prog 153 #[.string a,.string (s.extract k (k+n))] W λe y=>e=.returned (.string ⟨(cW a.data.toList ((s.data.toList.drop k).take n)).toArray⟩)/\Below W.heap.size W y):=z;clear z H B J;generalize cW a.data.toList ((s.data.toList.drop k).take n)=Q at*;by_cases h:Q=s.data.toList
  ·have HR:Hid (p=(s.data.toList.drop k).take n):=by show _=_;rw[d.u,Yb q,Yd h]
   have:(Q==s.toList)=true:=by rw[Zx,h];simp
   clear h d;go_wp2_with fail
   refine(K.u _).mono ?_;rintro e Y⟨rfl,C⟩;go_wp2_with fail
   go_ret;exact⟨by rw[HR.u,<-M.u];rfl,C⟩
  have HR:Hid (p=[]):=by show _=_;rw[d.u,Yb q,Yb h]
  have:(Q==s.toList)=false:=by rw[Zx];simpa using h
  clear d;go_wp2_with fail
  refine(K.u _).mono ?_;rintro e Y⟨rfl,C⟩;go_wp2_with fail
  go_ret;exact⟨by rw[HR.u];rfl,C⟩
def Sf(c:∀x∈C,x.jF=true->x.aU.length<=2000)(n:aj)(h:(nR C n).oA=false):(nR C n).aU.length<=2000:=by
 unfold nR at h⊢;cases a:C.reverse.find? (λx=>x.name==n) with
 |none=>exact Yh _
 |some x=>rw[a]at h;exact c x (List.mem_reverse.1 (YV a)) (by simpa using h)
def QK(g:∀x∈C,x.jF=true->x.aU.length<=2000)(h:rJ (nR C) (jQ p) a k e I)(d:I.er=0):I.bK.length<=2000/\k<=I.bC/\I.bC<=300:=by
 obtain⟨-,rfl⟩|⟨-,-,-,rfl⟩|⟨i,-,-,q⟩|⟨i,q,rfl⟩:=h
 ·cases d
 ·cases d
 ·have⟨L,b,c⟩:=q.XC;exact⟨b d,by omega,c (by omega) d⟩
 exact⟨Sf g e q,l' _,by show k+1<=300;omega⟩
theorem I7{xb:Nat}{vn:az}{L:js}{C:Nat}(l:1000<=C)(h:p.jH.length<=2*C)(i:p.first.length<=2*C)(d:p.all.length<=2*C)(e:p.stem.length<=2*C)(g:L.length<=1073741824)(a:∀x∈L,x.jF=true->x.aU.length<=2000)(u:∀x∈L,x.aU.length<=1073741824):
 ∀(n k:Nat) (m:fv),301-k<=n->k<=300->m.length<=k->C*fE L m<=140000000000000->Dl xb vn L p C k m
 |0,k,m,E,G,_,_=>by omega
 |n+1,H,m,E,D,J,j=>by
  refine P' (λk I w W B b z=>?_) l h i d e D;have⟨q,r,A⟩:=PI (C:=C) (by
   by_cases y:300<k+1
   ·exact .inl y
   refine .inr λc F=>I7 l h i d e g a u n (k+1) (m++[c]) (by omega) (by omega) (by rw[X4,Yx];omega) ?_;exact Ye (E2 _ (AU L m c)) j) j w (by omega) g a u W B b z
  exact⟨q,r,QK a r,A⟩
def K8(a:Sg):az:=.agg #[.bool a.on,aK a.jH,aK a.first,aK a.all,aK a.stem]
def Lz:Sg:=⟨false,[],[],[],[]⟩
def qV(W:ay)(c:az)(L:js):Prop:=∃a d b o,c=.slice a L.length d/\(0<L.length->a=some ⟨b,o,none⟩)/\vH W b o L/\(0<L.length->b<W.heap.size)
def qV.aD(h:qV W i C)(c:μ W W'):qV W' i C:=by have⟨a,f,b,o,p,g,j,d⟩:=h;refine⟨a,f,b,o,p,g,?_,λe=>Yo (d e) c.size⟩;intro n l;exact(j.aP c (d (by omega))) n l
structure Dw(L:js):Prop where
 len:L.length<=1073741824
 Xy:∀x∈L,x.jF=true->x.aU.length<=2000
 bK:∀x∈L,x.aU.length<=1073741824
 sum:fE L []<=110000000
structure zm(g:Sg):Prop where
 jH:g.jH.length<=1310000
 first:g.first.length<=1310000
 all:g.all.length<=1310000
 stem:g.stem.length<=1310000
def Wt:zm Lz:=⟨by decide,by decide,by decide,by decide⟩
def Xf:jQ Lz=λ_=>none:=by funext c;rfl
def XM.bq{g:Sg}(h:qV W i C):
 XM ((W.alloc (.cells #[.bool g.on,aK g.jH,aK g.first,aK g.all,aK g.stem] 152)).alloc (.cells #[i,.bool g.on,aK g.jH,aK g.first,aK g.all,aK g.stem,ι 0,ς,ι 0] 232)) (W.heap.size+1) i C g 0 (ς) [] 0:=by have c:=aF.bq (W.alloc (.cells #[.bool g.on,aK g.jH,aK g.first,aK g.all,aK g.stem] 152)) 232 [i,.bool g.on,aK g.jH,aK g.first,aK g.all,aK g.stem,ι 0,ς,ι 0];rw[X_]at c;have n:μ W ((W.alloc (.cells #[.bool g.on,aK g.jH,aK g.first,aK g.all,aK g.stem] 152)).alloc (.cells #[i,.bool g.on,aK g.jH,aK g.first,aK g.all,aK g.stem,ι 0,ς,ι 0] 232)):=(ak W _).alloc (by rw[X_];omega) _;have⟨a,f,b,o,r,j,l,d⟩:=h;refine⟨c,YG _ _ _ _,a,f,b,o,r,j,λq p=>(l.aP n (d (by omega))) q p,λe=>?_⟩;have:=d e;omega
def lB(a:Er):az:=.tuple #[.string ⟨(if a.er=0 then a.bK else []).toArray⟩,ι (a.er:Int)]
def Fy{L:js}(h:qV W i L)(g:Dw L)(j:zm p)(M:A.length<=100000000){r:Er}(B:b_ (nR L) (jQ p) [] 0 [] A r):
 Calls prog 72 #[i,.string ⟨A.toArray⟩,K8 p] W λe W'=>e=.returned (lB r)/\μ W W':=by
 have n:=XM.bq (g:=p) h;have w:655000*fE L []<=140000000000000:=by have:=g.sum;omega
 have y:=I7 (xb:=W.heap.size+1) (vn:=i) (C:=655000) (by omega) (by have:=j.jH;omega) (by have:=j.first;omega) (by have:=j.all;omega) (by have:=j.stem;omega) g.len g.Xy g.bK 301 0 [] (by omega) (by omega) ax w _ _ A r n B (by have:=g.sum;omega) (by omega);have I:Below W.heap.size W ((W.alloc (.cells #[.bool p.on,aK p.jH,aK p.first,aK p.all,aK p.stem] 152)).alloc (.cells #[i,.bool p.on,aK p.jH,aK p.first,aK p.all,aK p.stem,ι 0,ς,ι 0] 232)):=(ak W _).alloc (by rw[X_];omega) _;obtain⟨a,c,b,o,rfl,-,-,-⟩:=n.nm;unfold K8;unfold aK at*;go_in;go_wp2_with fail
 refine y.mono ?_;rintro e F⟨u,P,N,rfl,D,t,z,-⟩;obtain⟨-,-,-,G,-⟩:=D.cells;have E:Below W.heap.size W F:=by have J:=z.aP (lg n.row.lt) (λq H=>by cases H);exact I.trans (J.mono (by omega))
 have K:=aC t;by_cases d:r.er=0
 ·rw[d]at G;obtain⟨rfl,-⟩:=K d;have l:Hid (lB r=.tuple #[.string ⟨r.bK.toArray⟩,ι 0]):=by show lB r=_;unfold lB;rw[Yd d,d];rfl
  go_wp2_with fail
  go_ret2
  exact⟨by rw[l.u];rfl,E⟩
 have:((r.er:Int)==0)=false:=by rw[Yi];omega
 have l:Hid (lB r=.tuple #[.string ⟨#[]⟩,ι r.er]):=by show lB r=_;unfold lB;rw[Yb d]
 go_wp2_with fail
 go_region_with fail
 all_goals go_wp2_with fail
 all_goals go_ret2
 all_goals exact⟨by rw[l.u];rfl,E.os,E.tape,E.output,E.size,E.block⟩
def fO(W:ay)(v:az)(d:fv):Prop:=∃a c b o,v=.slice a d.length c/\(0<d.length->a=some ⟨b,o,none⟩/\b<W.heap.size)/\nU W b o d
def mr(W:ay)(v:az)(d:gb):Prop:=∃a e b o,v=.slice a d.length e/\(0<d.length->a=some ⟨b,o,none⟩/\b<W.heap.size)/\∀c (h:c<d.length),W.cell? ⟨b,o+c,none⟩=some (ι (d[c]:Int))
def fO.aD(h:fO W v a)(d:μ W W'):fO W' v a:=by have⟨k,f,b,o,l,c,i⟩:=h;refine⟨k,f,b,o,l,λe=>⟨(c e).1,Yo (c e).2 d.size⟩,λg j=>?_⟩;exact(d.cell (p:=η b (o+g)) (c (by omega)).2).trans (i g j)
def mr.aD(h:mr W v F)(d:μ W W'):mr W' v F:=by have⟨a,f,b,o,l,c,i⟩:=h;refine⟨a,f,b,o,l,λe=>⟨(c e).1,Yo (c e).2 d.size⟩,λg j=>?_⟩;exact(d.cell (p:=η b (o+g)) (c (by omega)).2).trans (i g j)
structure tK(W:ay)(b o:Nat)(r:Ru)(vt vn vs vl:az):Prop where
 c0:W.cell? ⟨b,o,none⟩=some vt
 c1:W.cell? ⟨b,o+1,none⟩=some vn
 c2:W.cell? ⟨b,o+2,none⟩=some vs
 c3:W.cell? ⟨b,o+3,none⟩=some vl
 c4:W.cell? ⟨b,o+4,none⟩=some (.bool r.cD)
 c5:W.cell? ⟨b,o+5,none⟩=some (.bool r.ph)
 tg:fO W vt r.tg
 nd:fO W vn r.nd
 st:fO W vs (r.cs.map (·.1))
 ln:mr W vl (r.cs.map (·.2))
def tK.aD{vs:az}(h:tK W c o d i n vs q)(b:c<W.heap.size)(a:μ W W'):tK W' c o d i n vs q:=⟨(a.cell (p:=η c _) b).trans h.c0,(a.cell (p:=η c _) b).trans h.c1,(a.cell (p:=η c _) b).trans h.c2,(a.cell (p:=η c _) b).trans h.c3,(a.cell (p:=η c _) b).trans h.c4,(a.cell (p:=η c _) b).trans h.c5,h.tg.aD a,h.nd.aD a,h.st.aD a,h.ln.aD a⟩
structure nL(W:ay)(bb:Nat)(fs:fy)(b:Bk):Prop where
 lt:bb<W.heap.size
 aW:∃a cap b' o,W.cell? ⟨bb,0,none⟩=some (.slice a fs.length cap)/\(0<fs.length->a=some ⟨b',o,none⟩/\b' <W.heap.size)/\eJ W b' o fs
 aX:∃vn,W.cell? ⟨bb,1,none⟩=some vn/\qV W vn b.aX
 aG:∃a cap b' o,W.cell? ⟨bb,2,none⟩=some (.slice a b.aG.length cap)/\(0<b.aG.length->a=some ⟨b',o,none⟩/\b' <W.heap.size)/\∀i (h:i<b.aG.length),∃vt vn vs vl,tK W b' (o+i*6) b.aG[i] vt vn vs vl
 cH:W.cell? ⟨bb,4,none⟩=some (ι (b.cH:Int))
 cC:W.cell? ⟨bb,5,none⟩=some (ι (b.cC:Int))
def nL.aD{b:Bk}(h:nL W bb B b)(c:μ W W'):nL W' bb B b:=by
 refine⟨Yo h.lt c.size,?_,?_,?_,(c.cell (p:=η bb _) h.lt).trans h.cH,(c.cell (p:=η bb _) h.lt).trans h.cC⟩
 ·have⟨a,f,k,o,g,d,i⟩:=h.aW;exact⟨a,f,k,o,(c.cell (p:=η bb _) h.lt).trans g,λe=>⟨(d e).1,Yo (d e).2 c.size⟩,λn j=>(i.aP c (d (by omega)).2) n j⟩
 ·have⟨l,g,d⟩:=h.aX;exact⟨l,(c.cell (p:=η bb _) h.lt).trans g,d.aD c⟩
 have⟨a,f,k,o,g,d,i⟩:=h.aG;refine⟨a,f,k,o,(c.cell (p:=η bb _) h.lt).trans g,λe=>⟨(d e).1,Yo (d e).2 c.size⟩,λn j=>?_⟩;have⟨r,l,m,q,u⟩:=i n j;exact⟨r,l,m,q,u.aD (d (by omega)).2 c⟩
structure Xz(r:Ru):Prop where
 tg:r.tg.length<=2000
 nd:r.nd.length<=2000
 qY:∀x∈r.tg,x.length<=2000
 fH:∀x∈r.nd,x.length<=2000
 cs:r.cs.length<=110000000
 XQ:∀c∈r.cs,c.1.length<=100000000/\c.2<=1073741824
structure nM(b:Bk):Prop where
 fU:b.aG.length<=64
 aG:∀r∈b.aG,Xz r
 aX:Dw b.aX
 cF:b.cF<=100
 cC:b.cC<=1073741824
 cH:b.cH<=9
def fO.xk(h:fO W v a)(g:a.length<=1073741824)(c:aj):∀W',μ W W' ->δ 115 #[v,σ c] W' (.bool (eo c a)):=λW' j=>by obtain⟨f,d,b,o,rfl,i,l⟩:=h.aD j;exact Fv a c f d b o W' (λe=>(i e).1) l g
def fO.jm(h:fO W v g):∃a cap,v=.slice a g.length cap:=by obtain⟨a,cap,b,o,c,-⟩:=h;exact⟨a,cap,c⟩
def mr.jm(h:mr W v F):∃a cap,v=.slice a F.length cap:=by obtain⟨a,cap,b,o,c,-⟩:=h;exact⟨a,cap,c⟩
def tK.jm(h:tK W o T d i n q y):∃l a p j e c g r,i=.slice l d.tg.length a/\n=.slice p d.nd.length j/\q=.slice e d.cs.length c/\y=.slice g d.cs.length r:=by have⟨l,a,A⟩:=h.tg.jm;have⟨p,j,z⟩:=h.nd.jm;have⟨e,c,w⟩:=h.st.jm;have⟨g,r,u⟩:=h.ln.jm;rw[Yk]at w u;exact⟨l,a,p,j,e,c,g,r,A,z,w,u⟩
def iP:ib->Int
 |some a=>(a:Int)|none=> -1
def ir(o:ib):az:= ι (iP o)
def JQ{p:Nat->Bool}(g:∀a,a<c->p a=false)(e:c<o)(h:p c=true):(List.range o).find? p=some c:=by rw[aeV];exact⟨h,ZX.2 e,λa d=>by rw[g a d];rfl⟩
def Kg{d:Nat->Bool}(g:∀a,a<c->d a=false)(h:¬c<o):(List.range o).find? d=none:=by rw[ZW];intro a e;rw[g a (by have:=ZX.1 e;omega)];decide
def iE{p:Nat->Bool}(d:∀a,a<c->p a=false)(g:p c=false):∀a,a<c+1->p a=false:=λa h=>by
 by_cases e:a=c
 ·rw[e];exact g
 exact d a (by omega)
def rD{b:Bk}(h:c<b.aG.length):b.aG.getD c db=b.aG[c]:=by rw[Yf,X9 h];rfl
def Gq{b:Bk}(N:nL W bb B b)(H:nM b)(name:aj)(k:Int):
 γ 109 #[π bb,σ name,ι k] W (ir (gh b.aG name k)):=by
 unfold γ π σ ι;have:=H.fU;have Z:=H.aG;go_in;go_wp2
 go_loopw [7] (λf wr=>∃c:Nat,f=ι c/\c<=b.aG.length/\Hid (∀y,y<c->(decide ((y:Int)≠k)&&fD name (b.aG.getD y db))=false)/\Hid (μ W wr)) (λf _=>b.aG.length-aV f)
 case atStart=>exact⟨0,rfl,Yh _,λy hj=>(by omega),X5 _ _⟩
 obtain⟨c,rfl,hi,i,D⟩:=hrel;have K:=N.aD D;have⟨a,s,rb,ro,c2,A,F⟩:=K.aG;by_cases w:c<b.aG.length
 ·obtain⟨rfl,ac⟩:=A (by omega);have⟨vt,vn,vs,vl,Q⟩:=F c w;have P:=Z _ (Ym w);have J:=rD w;generalize b.aG[c]=d at*;obtain⟨x,m,R,v,t,S,U,T,rfl,rfl,rfl,rfl⟩:=Q.jm;obtain⟨d0,d1,Y,d3,G,M,L,X,aa,V⟩:=Q;have:(c:Int)<b.aG.length:=by omega
  have C:=(X5 wr.heap.size wr).alloc ax (.cells #[.slice x d.tg.length m,.slice R d.nd.length v,.slice t d.cs.length S,.slice U d.cs.length T,.bool d.cD,.bool d.ph] 147);have j:=L.xk (by have:=P.tg;omega) name _ C;have h:=D.tr C;have l:Hid (∀q,(decide ((c:Int)≠k)&&fD name d)=q->(decide ((c:Int)≠k)&&fD name (b.aG.getD c db))=q):=λq o=>by rw[J];exact o
  by_cases E:(c:Int)=k
  ·subst E;have:((c:Int)==c)=true:=by simp
   have g:Hid ((decide ((c:Int)≠c)&&fD name d)=false):=by show _=_;rw[Y9 (λe=>e rfl)];rfl
   go_wp2_with (go_at_call 115;refine j.mono ?_;rintro e r⟨rfl,rfl⟩;skip)
   first
    |exact⟨⟨c+1,by go_num,by omega,(iE i (l _ g)),h⟩,by simp only[aV];omega⟩
    |(go_roundw;exact⟨c+1,by go_num,by omega,(iE i (l _ g)),h⟩;simp only[aV];omega)
  have:((c:Int)==k)=false:=by rw[Yi];exact E
  have g:Hid ((decide ((c:Int)≠k)&&fD name d)=(eo name d.tg&&(!d.cD&&(!d.ph&&decide (0<d.cs.length))))):=by show _=_;rw[Y6 E];rfl
  cases n:eo name d.tg with
  |false=>
   rw[n,qs]at g;go_wp2_with (go_at_call 115;refine j.mono ?_;rintro e r⟨rfl,rfl⟩;rw[n])
   first
    |exact⟨⟨c+1,by go_num,by omega,(iE i (l _ g)),h⟩,by simp only[aV];omega⟩
    |(go_roundw;exact⟨c+1,by go_num,by omega,(iE i (l _ g)),h⟩;simp only[aV];omega)
  |true=>
   cases p:d.cD with
   |true=>
    rw[n,p,Z7,adE,qs]at g;rw[p]at G j h;go_wp2_with (go_at_call 115;refine j.mono ?_;rintro e r⟨rfl,rfl⟩;rw[n])
    first
     |exact⟨⟨c+1,by go_num,by omega,(iE i (l _ g)),h⟩,by simp only[aV];omega⟩
     |(go_roundw;exact⟨c+1,by go_num,by omega,(iE i (l _ g)),h⟩;simp only[aV];omega)
   |false=>
    cases z:d.ph with
    |true=>
     rw[n,p,z,Z7,X1,Z7,adE,qs]at g;rw[p]at G j h;rw[z]at M j h;go_wp2_with (go_at_call 115;refine j.mono ?_;rintro e r⟨rfl,rfl⟩;rw[n])
     first
      |exact⟨⟨c+1,by go_num,by omega,(iE i (l _ g)),h⟩,by simp only[aV];omega⟩
      |(go_roundw;exact⟨c+1,by go_num,by omega,(iE i (l _ g)),h⟩;simp only[aV];omega)
    |false=>
     rw[n,p,z,Z7,X1,Z7,Z7]at g;rw[p]at G j h;rw[z]at M j h;by_cases O:0<d.cs.length
     ·rw[Y6 O]at g
      have I:Hid (ir (gh b.aG name k)=ι c):=by show _=_;unfold gh;rw[JQ i.u w (l.u _ g.u)];rfl
      go_wp2_with (go_at_call 115;refine j.mono ?_;rintro e r⟨rfl,rfl⟩;rw[n])
      go_ret;exact⟨by rw[I.u];rfl,h⟩
     rw[Y9 O]at g
     go_wp2_with (go_at_call 115;refine j.mono ?_;rintro e r⟨rfl,rfl⟩;rw[n])
     first
      |exact⟨⟨c+1,by go_num,by omega,(iE i (l _ g)),h⟩,by simp only[aV];omega⟩
      |(go_roundw;exact⟨c+1,by go_num,by omega,(iE i (l _ g)),h⟩;simp only[aV];omega)
 have:¬(c:Int)<b.aG.length:=by omega
 have I:Hid (ir (gh b.aG name k)=ι (-1)):=by show _=_;unfold gh;rw[Kg i.u w];rfl
 go_wp2
 go_ret;exact⟨by rw[I.u];rfl,D⟩
def Jw{b:Bk}{p:Ru->Bool}(d:c<b.aG.length)(a:p b.aG[c]=true):b.aG.any p=true:=Z1.2 ⟨_,Ym d,a⟩
variable {h:Ru->Bool}
def Ju{b:Bk}(e:∀a,a<c->h (b.aG.getD a db)=false)(j:¬c<b.aG.length):b.aG.any h=false:=by rw[pe];intro i g;obtain⟨a,d,rfl⟩:=ZD g;have:=e a (by omega);rw[rD d]at this;rw[this];decide
def R'{b:Bk}(g:∀a,a<c->h (b.aG.getD a db)=false)(e:c<b.aG.length)(i:h b.aG[c]=true):b.aG.find? h=some b.aG[c]:=by rw[aa4];refine⟨i,c,e,rfl,λa d=>?_⟩;have:=g a d;rw[rD (by omega)]at this;rw[this];rfl
def Rj{b:Bk}(e:∀a,a<c->h (b.aG.getD a db)=false)(j:¬c<b.aG.length):b.aG.find? h=none:=by rw[ZW];intro i g;obtain⟨a,d,rfl⟩:=ZD g;have:=e a (by omega);rw[rD d]at this;rw[this];decide
def FO(h:0<a.length):a.headD []=a[0]:=by cases a with|nil=>cases h|cons y c=>rfl
def qx(b:Bk):aj:=((b.aG.find? λa=> !a.cD&& !a.ph).map (·.tg.headD [])).getD []
def Iz{b:Bk}(H:nL W bb B b)(C:nM b)(name:aj):
 Calls prog 111 #[.pointer (some ⟨bb,0,none⟩),.string ⟨name.toArray⟩] W λe W'=>e=.returned (.bool (kK b name))/\W' =W:=by
 have:=C.fU;have R:=C.aG;go_in;go_wp2
 go_loopw [5] (λz wr=>∃c:Nat,z=.int .i64 c/\c<=b.aG.length/\Hid (∀d,d<c->(dz name) (b.aG.getD d db)=false)/\wr=W) (λz _=>b.aG.length-aV z)
 case atStart=>exact⟨0,rfl,Yh _,λd hj=>(by omega),rfl⟩
 obtain⟨c,rfl,hi,j,N⟩:=hrel;subst N;have:=H.lt;have⟨a,f,rb,o,T,y,k⟩:=H.aG;by_cases p:c<b.aG.length
 ·obtain⟨rfl,M⟩:=y (by omega);have⟨vt,vn,s,vl,L⟩:=k c p;have V:=R _ (Ym p);have E:=rD p;have Q:Hid ((dz name) b.aG[c]=true->kK b name=true):=λh=>Jw p h;generalize b.aG[c]=g at*;obtain⟨a1,m,a2,k2,x,t,P,k4,rfl,rfl,rfl,rfl⟩:=L.jm;have⟨X,v,Z,n,K,G,F,S,U,O⟩:=L;have:(c:Int)<b.aG.length:=by omega
  have r:=F.xk (by have:=V.tg;omega) name _ (X5 _ _);have l:Hid (∀q,(dz name) g=q->(dz name) (b.aG.getD c db)=q):=λq Y=>by rw[E];exact Y
  cases w:eo name g.tg with
  |false=>
   have i:=aC ((show (dz name) g=false by simp[dz, *]));go_wp2_with (go_at_call 115;refine r.mono ?_;rintro e A⟨rfl,rfl⟩;rw[w])
   first
    |exact⟨⟨c+1,by go_num,by omega,(iE (p:=λd=>(dz name) (b.aG.getD d db)) j (l _ i)),by trivial⟩,by simp only[aV];omega⟩
    |(go_roundw;exact⟨c+1,by go_num,by omega,(iE (p:=λd=>(dz name) (b.aG.getD d db)) j (l _ i)),by trivial⟩;simp only[aV];omega)
  |true=>
   cases J:g.cD with
   |true=>
    rw[J]at K;have i:=aC ((show (dz name) g=false by simp[dz, *]));go_wp2_with (go_at_call 115;refine r.mono ?_;rintro e A⟨rfl,rfl⟩;rw[w])
    first
     |exact⟨⟨c+1,by go_num,by omega,(iE (p:=λd=>(dz name) (b.aG.getD d db)) j (l _ i)),by trivial⟩,by simp only[aV];omega⟩
     |(go_roundw;exact⟨c+1,by go_num,by omega,(iE (p:=λd=>(dz name) (b.aG.getD d db)) j (l _ i)),by trivial⟩;simp only[aV];omega)
   |false=>
    rw[J]at K;cases I:g.ph with
    |true=>
     rw[I]at G;have i:=aC ((show (dz name) g=false by simp[dz, *]));go_wp2_with (go_at_call 115;refine r.mono ?_;rintro e A⟨rfl,rfl⟩;rw[w])
     first
      |exact⟨⟨c+1,by go_num,by omega,(iE (p:=λd=>(dz name) (b.aG.getD d db)) j (l _ i)),by trivial⟩,by simp only[aV];omega⟩
      |(go_roundw;exact⟨c+1,by go_num,by omega,(iE (p:=λd=>(dz name) (b.aG.getD d db)) j (l _ i)),by trivial⟩;simp only[aV];omega)
    |false=>
     rw[I]at G;have D:=aC (Q ((show (dz name) g=true by simp[dz, *])));go_wp2_with (go_at_call 115;refine r.mono ?_;rintro e A⟨rfl,rfl⟩;rw[w])
     go_ret;exact⟨by rw[D.u];rfl,rfl⟩
 have:¬(c:Int)<b.aG.length:=by omega
 have D:Hid (kK b name=false):=(Ju j p);go_wp2
 go_ret;exact⟨by rw[D.u];rfl,rfl⟩
def PG{b:Bk}(F:nL W bb B b)(fs:nM b)(name:aj):
 Calls prog 110 #[.pointer (some ⟨bb,0,none⟩),.string ⟨name.toArray⟩] W λe W'=>e=.returned (.bool (fW b name))/\W' =W:=by
 have v:=fs.fU;have Q:=fs.aG;go_enter func110,ntmps110;go_wp2_with fail
 go_loopw [5] (λw wr=>∃d:Nat,w=.int .i64 d/\d<=b.aG.length/\Hid (∀g,g<d->(λc=>eo name c.nd&&c.ph) (b.aG.getD g db)=false)/\wr=W) (λw _=>b.aG.length-aV w)
 case atStart=>exact⟨0,rfl,Yh _,λg hj=>(by omega),rfl⟩
 obtain⟨d,rfl,hi,l,M⟩:=hrel;subst M;have Y:=F.lt;obtain⟨a,f,X,n,x,r,A⟩:=F.aG;by_cases j:d<b.aG.length
 ·obtain⟨rfl,aa⟩:=r (by omega);obtain⟨vt,vn,Z,vl,J⟩:=A d j;have S:=Q _ (Ym j);have D:=rD j;have P:Hid ((λc=>eo name c.nd&&c.ph) b.aG[d]=true->fW b name=true):=λh=>Jw (p:=λc=>eo name c.nd&&c.ph) j h;generalize b.aG[d]=c at*;obtain⟨a1,k,a2,k2,t,o,K,k4,rfl,rfl,rfl,rfl⟩:=J.jm;obtain⟨T,s,V,m,d4,E,L,G,R,N⟩:=J;have O:(d:Int)<b.aG.length:=by omega
  have y:=G.xk (by have:=S.nd;omega) name _ (X5 _ _);have p:Hid (∀q,(λc=>eo name c.nd&&c.ph) c=q->(λc=>eo name c.nd&&c.ph) (b.aG.getD d db)=q):=λq U=>by rw[D];exact U
  cases z:eo name c.nd with
  |false=>
   have i:=aC ((show (λc=>eo name c.nd&&c.ph) c=false by simp[*]));go_wp2_with (go_at_call 115;refine y.mono ?_;rintro e H⟨rfl,rfl⟩;rw[z])
   first
    |exact⟨⟨d+1,by go_num,by omega,aC (iE (p:=λg=>(λc=>eo name c.nd&&c.ph) (b.aG.getD g db)) l.u (p.u _ i.u)),by trivial⟩,by simp only[aV];omega⟩
    |(go_roundw;exact⟨d+1,by go_num,by omega,aC (iE (p:=λg=>(λc=>eo name c.nd&&c.ph) (b.aG.getD g db)) l.u (p.u _ i.u)),by trivial⟩;simp only[aV];omega)
  |true=>
   cases I:c.ph with
   |false=>
    rw[I]at E;have i:=aC ((show (λc=>eo name c.nd&&c.ph) c=false by simp[*]));go_wp2_with (go_at_call 115;refine y.mono ?_;rintro e H⟨rfl,rfl⟩;rw[z])
    first
     |exact⟨⟨d+1,by go_num,by omega,aC (iE (p:=λg=>(λc=>eo name c.nd&&c.ph) (b.aG.getD g db)) l.u (p.u _ i.u)),by trivial⟩,by simp only[aV];omega⟩
     |(go_roundw;exact⟨d+1,by go_num,by omega,aC (iE (p:=λg=>(λc=>eo name c.nd&&c.ph) (b.aG.getD g db)) l.u (p.u _ i.u)),by trivial⟩;simp only[aV];omega)
   |true=>
    rw[I]at E;have C:=aC (P.u ((show (λc=>eo name c.nd&&c.ph) c=true by simp[*])));go_wp2_with (go_at_call 115;refine y.mono ?_;rintro e H⟨rfl,rfl⟩;rw[z])
    go_ret;exact⟨by rw[C.u];rfl,rfl⟩
 have O:¬(d:Int)<b.aG.length:=by omega
 have C:Hid (fW b name=false):=aC (Ju l.u j);go_wp2_with fail
 go_ret;exact⟨by rw[C.u];rfl,rfl⟩
theorem uG{g:UInt8->jj}:∀(f:Nat) (m:fv) (k:Nat) (a t:aj) (c:Er),eD H g f m k a t=some c->c.er<=9
 |0,_,_,_,_,_,h=>by cases h
 |f+1,m,k,a,t,c,h=>by
  rw[eD]at h;split at h
  ·cases h;unfold ic;split<;>simp
  split at h
  ·cases h;simp
  split at h
  ·exact uG f _ _ _ _ _ h
  split at h
  ·split at h
   ·cases h;simp
   split at h
   ·cases h;simp
   split at h
   ·split at h
    ·cases h;simp
    split at h
    ·cases h
    rename_i q d;split at h
    ·exact uG f _ _ _ _ _ h
    have e:=uG f _ _ _ _ _ d;cases h;exact e
   exact uG f _ _ _ _ _ h
  split at h
  ·cases h;simp
  exact uG f _ _ _ _ _ h
def oP(N:aj->Nv)(t:aj):(dy N t).bK.length<=2000/\(dy N t).er<=9:=by
 unfold dy;split
 ·next h=>have⟨f,a⟩:=h.choose_spec;exact⟨rz f _ _ _ _ _ a,uG f _ _ _ _ _ a⟩
 exact⟨by simp,by simp⟩
def QM:fE (C++[K]) []=fE C []+if K.jF=true then 0 else K.aU.length:=by
 induction C with
 |nil=>show fE [K] []=_;unfold fE fE;simp
 |cons y c a=>rw[Y3];unfold fE;rw[a];omega
def gD(a:fv):Nat:=(a.map λx=>x.length+1).sum
def nW:gD (e::a)=e.length+1+gD a:=by unfold gD;rw[YE,ri]
theorem uy:∀a u:fv,gD (a++u)=gD a+gD u
 |[],u=>by show gD u=0+gD u;omega
 |x::c,u=>by rw[Y3,nW,nW,uy c u];omega
theorem FI:∀(u:fv) (x:aj),x∈u->gD u=x.length+1+gD (u.erase x)
 |y::a,x,h=>by
  by_cases e:y=x
  ·subst e;rw[afO,nW]
  rw[afP (by simpa using e),nW,nW,FI a x ((YD.1 h).resolve_left (λq=>e q.symm))];omega
theorem BP:∀(a u:fv),a.Nodup->(∀x∈a,x∈u)->gD a<=gD u
 |[],_,_,_=>Yh _
 |x::g,u,c,h=>by rw[sT]at c;have:=BP g (u.erase x) c.2 λy d=>(acf (λ(e:y=x)=>c.1 (by rw[<-e];exact d))).2 (h y (Yp _ d));rw[nW,FI u x (h x (Yq ..))];omega
theorem Gy:∀c:fv,([32].intercalate c).length<=gD c
 |[]=>Yh _
 |[x]=>by rw[nW];simp[List.intercalate];omega
 |x::y::a=>by
  have:=Gy (y::a);have e:([32].intercalate (x::y::a):aj)=x++[32]++[32].intercalate (y::a):=by simp[List.intercalate,List.intersperse]
  rw[e,nW];simp only[X4,Yx];omega
theorem wP{α:Type}(f:α->fv)(k:Nat):∀a:List α,(∀x∈a,gD (f x)<=k)->gD (a.flatMap f)<=a.length*k
 |[],_=>Yh _
 |x::c,h=>by have:=h x (Yq ..);have:=wP f k c λy d=>h y (Yp _ d);rw[YA,uy,Ya,l5];omega
theorem yk:∀(f:Nat) (a t:aj),t.length<=f->gD (e_ a t)<=a.length+t.length+1
 |0,a,t,h=>by
  have:t=[]:=Y4.1 (by omega);subst this;unfold e_;split
  ·exact Yh _
  rw[nW];show _+0<=_;simp
 |f+1,a,[],h=>yk 0 a [] ax
 |f+1,a,c::t,h=>by
  have d:t.length<=f:=by simpa using h
  rw[e_];split
  ·have:=yk f [] t d;split
   ·simp only[Ya,Yr] at*;omega
   rw[nW];simp only[Ya,Yr] at*;omega
  have:=yk f (a++[c]) t d;simp only[X4,Ya,Yr] at*;omega
structure iM(T:Nat)(b:Bk)(k:Nat):Prop where
 fU:b.aG.length<=64
 ru:∀r∈b.aG,r.tg.length<=2000/\r.nd.length<=2000/\(∀x∈r.tg,x.length<=2000)/\(∀x∈r.nd,x.length<=2000)/\r.cs.length<=k/\(∀c∈r.cs,c.1.length<=T/\c.2<=T+1)/\gD r.tg<=2001/\gD r.nd<=2001
 nl:b.aX.length<=k
 nf:∀x∈b.aX,x.jF=true->x.aU.length<=2000
 nt:∀x∈b.aX,x.aU.length<=T+2000
 ns:fE b.aX []<=k
 cF:b.cF<=100
 cC:b.cC<=T+1
 cH:b.cH<=9
def eF(T:Nat)(b:Bk)(k:Nat)(b':Bk)(add:Nat):Prop:=b.cF<=b'.cF/\∃a,iM T b' a /\a <=k+add+(b'.cF-b.cF)*(T+1)
section
variable {b b' P:Bk}
def iM.dH(h:iM T b k)(a:c<=9)(e:o<=T+1):iM T (b.dH c o) k:=⟨h.fU,h.ru,h.nl,h.nf,h.nt,h.ns,h.cF,e,a⟩
def eF.refl(h:iM T b k)(a:Nat):eF T b k b a:=⟨X0 _,k,h,by omega⟩
def eF.of{add:Nat}(h:iM T b' (k+add))(a:b'.cF=b.cF):eF T b k b' add:=⟨by omega,k+add,h,by omega⟩
def eF.trans(h:eF T b k b' c)(j:∀a,iM T b' a ->eF T b' a P u):eF T b k P (c+u):=by
 have⟨n,d,i,p⟩:=h;have⟨l,e,g,q⟩:=j d i;refine⟨by omega,e,g,?_⟩;have:P.cF-b.cF=(P.cF-b'.cF)+(b'.cF-b.cF):=by omega
 rw[this,L2];omega
def eF.le(h:eF T b k b' c)(g:c<=u):eF T b k b' u:=by have⟨d,a,e,i⟩:=h;exact⟨d,a,e,by omega⟩
def wU(h:e.length<=2000):(bQ e).length<=2000/\(∀x∈bQ e,x.length<=2000)/\gD (bQ e)<=2001:=⟨Ye (sL e).1 h,λx a=>Ye ((sL e).2 x a) h,by have:=yk e.length [] e ax;unfold bQ;simp only[Yr]at this;omega⟩
def Kb(h:iM T b k)(g e:aj)(d:c<=T+1):eF T b k (gL b g e c) 0:=by
 unfold gL;split
 ·exact eF.of (h.dH (oP _ _).2 d) rfl
 split
 ·exact eF.of (h.dH (oP _ _).2 d) rfl
 split
 ·exact eF.of (h.dH (by decide) d) rfl
 split
 ·exact eF.of (h.dH (by decide) d) rfl
 rename_i y;refine eF.of (add:=0) ⟨?_,λq a=>?_,h.nl,h.nf,h.nt,h.ns,h.cF,h.cC,h.cH⟩ rfl
 ·show(b.aG++[_]).length<=64;rw[X4,Yx];omega
 obtain a|a:=Yv.1 a
 ·exact h.ru q a
 rw[Yc.1 a];have⟨l,p,w⟩:=wU (oP (nR b.aX) g).1;have⟨r,i,j⟩:=wU (oP (nR b.aX) e).1;exact⟨l,r,p,i,Yh _,λn u=>(by cases u),w,j⟩
def Pg(h:iM T b k)(z:e.length<=T)(r:c<=T+1):eF T b k (lY b e c) 1:=by
 unfold lY;split
 ·exact(eF.of (add:=0) (h.dH (by decide) r) rfl).le (by omega)
 refine eF.of (add:=1) ⟨by show(b.aG.set _ _).length<=64;rw[Y7];exact h.fU,λq n=>?_,H6 h.nl,h.nf,h.nt,H6 h.ns,h.cF,h.cC,h.cH⟩ rfl;obtain n|n:=HJ n
 ·have⟨w,j,l,u,A,i⟩:=h.ru q n;exact⟨w,j,l,u,by omega,i⟩
 rw[n];by_cases g:ly b∈b.aG
 ·have⟨w,j,l,u,A,i⟩:=h.ru _ g;refine⟨w,j,l,u,by simp only[X4,Yx];omega,λd a=>?_,i.2⟩;obtain a|a:=Yv.1 a
  ·exact i.1 d a
  rw[Yc.1 a];exact⟨z,r⟩
 have B:ly b=db:=by
  unfold ly at g⊢;rw[Yf]at g⊢;cases y:b.aG[b.aG.length-1]? with
  |none=>rfl|some C=>rw[y]at g;exact absurd (Z5 y) g
 rw[B];refine⟨Yh _,Yh _,λx p=>(by cases p),λx p=>(by cases p),by simp[db],λd a=>?_,Yh _,Yh _⟩;have:d=(e,c):=by simpa [db]using a
 rw[this];exact⟨z,r⟩
def Cg(h:iM T b k)(l:K.jF=true->K.aU.length<=2000)(g:K.aU.length<=T+2000)(A:(if K.jF=true then 0 else K.aU.length)+1<=c)(e n:Nat)(w:e<=9)(r:n<=T+1):eF T b k ⟨b.aX++[K],b.aG,b.cF,e,n⟩ c:=by
 refine eF.of ⟨h.fU,λx p=>?_,?_,λy a=>?_,λy a=>?_,?_,h.cF,r,w⟩ rfl
 ·have⟨j,d,q,i,z,u⟩:=h.ru x p;exact⟨j,d,q,i,by omega,u⟩
 ·have:=h.nl;show(b.aX++[K]).length<=_;rw[X4,Yx];omega
 ·obtain a|a:=Yv.1 a
  ·exact h.nf y a
  rw[Yc.1 a];exact l
 ·obtain a|a:=Yv.1 a
  ·exact h.nt y a
  rw[Yc.1 a];exact g
 show fE (b.aX++[K]) []<=_;rw[QM];have:=h.ns;omega
variable {rec:Bk->aj->Bk}{can:Bool}{fs:fy}
def qF(T:Nat)(rec:Bk->aj->Bk):Prop:=∀b k t,t.length<=T->iM T b k->eF T b k (rec b t) (T+1)
def Jo(p:qF T rec)(i:∀u a,Pl.look fs u=some a->a.aU.length<=T)(h:iM T b k)(w:aj)(n:c<=T+1):eF T b k (jU rec can fs b w c) 0:=by
 unfold jU;cases l:Pl.look fs w with
 |none=>exact eF.of (h.dH (by decide) n) rfl
 |some a=>
  simp only;split
  ·exact eF.of (h.dH (by decide) n) rfl
  split
  ·exact eF.of (h.dH (by decide) n) rfl
  rename_i z;have r:iM T {b with cF:=b.cF+1} k:=⟨h.fU,h.ru,h.nl,h.nf,h.nt,h.ns,by show b.cF+1<=100;omega,h.cC,h.cH⟩;have⟨g,d,j,q⟩:=p _ k a.aU (i w a l) r;refine⟨by have:b.cF+1<=_:=g;omega,d,j,?_⟩;have y:b.cF+1<=(rec {b with cF:=b.cF+1} a.aU).cF:=g;have e:(rec {b with cF:=b.cF+1} a.aU).cF-b.cF=((rec {b with cF:=b.cF+1} a.aU).cF-(b.cF+1))+1:=by omega
  rw[e,L2,Nat.one_mul];have A:d<=k+(T+1)+((rec {b with cF:=b.cF+1} a.aU).cF-(b.cF+1))*(T+1):=q;omega
theorem Il(e:qF T rec)(n:∀j d,Pl.look fs j=some d->d.aU.length<=T)(g:c<=T+1):∀(a:fv) (b:Bk) (k:Nat),iM T b k->eF T b k (lh rec can fs c a b) 0
 |[],b,k,h=>eF.refl h 0
 |w::a,b,k,h=>by
  unfold lh;split
  ·exact eF.refl h 0
  exact(Jo e n h w g).trans λl i=>Il e n g a _ l i
def J9(i:qF T rec)(d:∀j c,Pl.look fs j=some c->c.aU.length<=T)(h:iM T b k)(f:Bool)(p:L.2.length<=T)(a:L.1<=T+1):eF T b k (gA rec can fs b f L).2 (L.2.length+1):=by
 obtain⟨l,n,-⟩:=wM L.2;unfold gA;split
 ·exact eF.refl h _
 split
 ·simp only;split
  ·exact(Pg h (by omega) a).le (by omega)
  exact(eF.of (add:=0) (h.dH (by decide) a) rfl).le (by omega)
 split
 ·show eF T b k (nr rec can fs b _ _) _;unfold nr;split
  ·exact(eF.of (add:=0) (h.dH (oP _ _).2 a) rfl).le (by omega)
  exact(Il i d a _ _ _ h).le (by omega)
 split
 ·exact Cg h (λe=>by cases e) (by show(bD L.2).1.right.length<=T+2000;omega) (by show(if false=true then 0 else(bD L.2).1.right.length)+1<=_;rw[Yb (by decide)];omega) _ _ h.cH h.cC
 split
 ·show eF T b k (tC b _ _ _) _;unfold tC;split
  ·exact Cg h (λ_=>Yh _) (Yh _) (by show(if true=true then 0 else _)+1<=_;rw[Yd rfl];omega) _ _ (oP _ _).2 a
  have g:=(oP (nR b.aX) (bD L.2).1.right).1;exact Cg h (λ_=>g) (by show(dy (nR b.aX) (bD L.2).1.right).bK.length<=T+2000;omega) (by show(if true=true then 0 else _)+1<=_;rw[Yd rfl];omega) _ _ h.cH h.cC
 split
 ·exact(Kb h _ _ a).le (by omega)
 exact(eF.of (add:=0) (h.dH (by decide) a) rfl).le (by omega)
theorem Bo(c:qF T rec)(a:∀n e,Pl.look fs n=some e->e.aU.length<=T):∀(xs:List (Nat×aj)) (b:Bk) (op:Bool) (k:Nat),iM T b k->(∀x∈xs,x.2.length<=T/\x.1<=T+1)->eF T b k (jT rec can fs xs b op) (mJ xs)
 |[],b,_,k,h,_=>eF.refl h _
 |x::xs,b,op,k,h,d=>by
  unfold jT;split
  ·exact eF.refl h _
  rw[uf];have⟨l,i⟩:=d x (Yq ..);exact((J9 c a h op l i).trans λp j=>Bo c a xs _ _ p j λy g=>d y (Yp _ g)).le (by omega)
end
theorem Fo:∀(d:fv) (a:aj) (u:Nat) (c:aj),(f_ a u c d).2.1+(f_ a u c d).2.2.length=u+d.length
 |[],a,u,c=>rfl
 |q::e,a,u,c=>by
  unfold f_;split
  ·rw[Fo e,Ya];omega
  rfl
theorem GC:∀(f n:Nat) (a:fv) (x:Nat×aj),x∈me f n a->x.1<n+a.length
 |0,_,_,_,h=>by cases h
 |_+1,_,[],_,h=>by cases h
 |f+1,n,d::c,x,h=>by
  rw[me]at h;obtain rfl|h:=YD.1 h
  ·show n<_;rw[Ya];omega
  have:=GC f _ _ x h;have:=Fo c [] 1 d;rw[Ya];omega
def Ar{t:aj}(h:L∈dF t):L.1<=t.length+1:=by
 have j:=GC _ _ _ L h;have i:(jc t).length<=t.length+1:=by
  have d:∀c:fv,c.length<=rp c:=λc=>by
   induction c with
   |nil=>exact Yh _
   |cons a e g=>rw[t_,Ya];omega
  have:=d (jc t);rw[Eo]at this;exact this
 omega
theorem B7(c:∀i g,Pl.look B i=some g->g.aU.length<=T):∀d,qF T (kC B d)
 |0,b,k,t,e,h=>by unfold kC;exact(Bo (λb k t _ h=>eF.refl h _) c _ _ _ _ h λx a=>⟨Ye (wG a) e,Ye (Ar a) (by omega)⟩).le (Ye (ua t) (by omega))|d+1,b,k,t,e,h=>by unfold kC;exact(Bo (B7 c d) c _ _ _ _ h λx a=>⟨Ye (wG a) e,Ye (Ar a) (by omega)⟩).le (Ye (ua t) (by omega))
def IW(h:∀i c,Pl.look B i=some c->c.aU.length<=T)(d:aj):∃k,iM T (eA B d) k/\k<=101*(T+1):=by
 have a:iM T mA 0:=⟨Yh _,λn l=>(by cases l),X0 _,λx e=>(by cases e),λx e=>(by cases e),X0 _,Yh _,Yh _,Yh _⟩;unfold eA;cases j:Pl.look B d with
 |none=>exact⟨0,⟨a.fU,a.ru,a.nl,a.nf,a.nt,a.ns,a.cF,a.cC,by show 2<=9;decide⟩,Yh _⟩
 |some c=>obtain⟨-,k,g,p⟩:=B7 h 3 mA 0 c.aU (h d c j) a;refine⟨k,g,?_⟩;have:=g.cF;have:((kC B 3 mA c.aU).cF-mA.cF)*(T+1)<=100*(T+1):=Zs _ (by show _-0<=100;omega);omega
def eV.sl{B:Nat}(h:eV W B v a):fO W v a:=by
 unfold eV at h;cases a with
 |nil=>obtain⟨f,b,rfl⟩:=dR h;exact⟨f,b,0,0,rfl,λe=>(by cases e),λd c=>(by cases c)⟩
 |cons x j=>obtain⟨i,b,rfl,-,g⟩:=dv h (by simp);refine⟨_,b,i,0,rfl,λ_=>⟨rfl,g⟩,λd c=>?_⟩;have:=lI h d (by rw[Yk];exact c);rw[YT]at this;rw[YO];exact this
def GM{B:Nat}(h:eV W B v a)(O:B<=W.heap.size)(A:a.length<=1073741824)(k:aj):
 Calls prog 114 #[v,σ k] W λe W'=>∃v',e=.returned v'/\eV W' B v' (dj a k)/\W.grownBy W' v.ownBlock/\(v'.ownBlock=v.ownBlock\/∃q,v'.ownBlock=some q/\W.heap.size<=q):=by
 have r:=h.sl.xk A k W (X5 _ _);have⟨F,j,l,p,i⟩:=Y1 Tryz.kZ;obtain⟨f,b,rfl⟩:=dR h;cases c:eo k a with
 |true=>
  have g:Hid (dj a k=a):=by show _=_;unfold dj;rw[Yd c]
  go_in;go_wp2_with (go_at_call 115;refine r.mono ?_;rintro e C⟨rfl,rfl⟩;rw[c])
  go_ret;exact⟨_,rfl,by rw[g.u];exact h,World.grownBy.refl _ _,.inl rfl⟩
 |false=>
  have g:Hid (dj a k=a++[k]):=by show _=_;unfold dj;rw[Yb (by rw[c];decide)]
  go_in;go_wp2_with (first|(go_at_call 115;refine r.mono ?_;rintro e C⟨rfl,rfl⟩;rw[c])|(at_builtin;go_loud (refine YS _ rfl (.tmp 11) (.tmp 13) 30 rfl B 9 F (ε) 1 16 YU (aC j).u (aC l).u (aC p).u (aC i).u rfl (by decide) _ a.length _ rfl (Yz h _) (η _ 0) 1 1 [σ k] rfl rfl (Zl _ _ _) (uK) (by unfold maxLen;omega) (by omega) (by rw[X_];omega) ?_;intro N L d w z n;obtain⟨P,M,rfl⟩:=dR d)))
  go_ret;refine⟨_,rfl,?_,(YZ _ _ _).trans w,?_⟩
  ·rw[g.u];unfold eV;rw[X4,Yy];exact d
  obtain e|e:=n
  ·exact .inl e
  exact .inr ⟨_,e,by rw[X_];omega⟩
def MB(n a:aj)(w:ay)(c:n.length<=1073741824)(d:a.length<=1073741824):
 γ 153 #[σ n,σ a] w (σ (cW n a)):=
 Ez ⟨n.toArray⟩ ⟨a.toArray⟩ w c d
structure sw(W:ay)(nd:fv)(stem:aj)(vs:f')(i:Nat)(v:az)(wr:ay):Prop where
 aP:μ W wr
 df:aF wr W.heap.size 147 vs
 row:eV wr (W.heap.size+1) v ((nd.take i).map λn=>cW n stem)
def sw.aD{vs:f'}(h:sw W a e vs c v wr)(d:μ wr O):sw W a e vs c v O:=⟨h.aP.tr d,h.df.aD d,bI h.row λk g=>d.block k (Yt h.row k g).2⟩
def sw.push{i:Nat}{v':az}{o:Obj}(h:sw W a e j i v wr)(p:i<a.length)(g:(wr.alloc o).grownBy O v.ownBlock)(l:O.ownsRow (W.heap.size+1) 9 1 v' (((a.take i).map λn=>cW n e).length+1) (((a.take i).map λn=>cW n e).map aK++[aK (cW a[i] e)])):sw W a e j (i+1) v' O:=by have c:=(YZ wr o v.ownBlock).trans g;have d:=h.df.lt;refine⟨h.aP.trans ⟨c.os,c.tape,c.output,c.size,λk q=>c.block k (by omega) (cQ h.row (by omega))⟩,(c.block _ d (cQ h.row (by omega))).trans h.df,?_⟩;unfold eV;rw[Yn p,Yy,Yy,X4];exact l
def WA(b:Bk)(d:fy)(c:fv)(a:aj)(W:ay)(e:Ending)(W':ay):Prop:=((c.all (λn=>kF b d (cW n a))=false/\e=.returned (.tuple #[ς,.bool false]))\/(c.all (λn=>kF b d (cW n a))=true/\∃v,e=.returned (.tuple #[v,.bool true])/\eV W' (W.heap.size+1) v (c.map λn=>cW n a)))/\μ W W'
def Tx{d:aj->Bool}(h:∀n∈a.take c,d n=true)(i:c<a.length)(g:d a[c]=true):∀n∈a.take (c+1),d n=true:=λn e=>by
 rw[Yn i]at e;obtain q|q:=Yv.1 e
 ·exact h n q
 rw[Yc.1 q];exact g
def PO{b:Bk}(m:nL W bb B b)(hS:nM b)(aQ:B.length<=16777216){a1 C a3 a4:fY}{k1 k3 k4 n1 n3 n4:Nat}{pt ph:Bool}(dA:fO W (.slice C a.length c) a)(aR:a.length<=2000)(au:∀n∈a,n.length<=2000)(g:aj)(aO:g.length<=1073741000):
 Calls prog 113 #[π bb,.agg #[.slice a1 n1 k1,.slice C a.length c,.slice a3 n3 k3,.slice a4 n4 k4,.bool pt,.bool ph],σ g] W λe W'=>WA b B a g W e W':=by
 unfold π σ;have aE:=aC au;have⟨i0,fs,ag,al,ac⟩:=Y1 Tryz.kZ;have ap:=aC fs;have x:=aC ag;have ar:=aC al;have ai:=aC ac;have H0:Hid (sw W a g [.slice a1 n1 k1,.slice C a.length c,.slice a3 n3 k3,.slice a4 n4 k4,.bool pt,.bool ph] 0 (ς) (W.alloc (.cells #[.slice a1 n1 k1,.slice C a.length c,.slice a3 n3 k3,.slice a4 n4 k4,.bool pt,.bool ph] 147))):=⟨ak _ _,aF.bq W 147 [.slice a1 n1 k1,.slice C a.length c,.slice a3 n3 k3,.slice a4 n4 k4,.bool pt,.bool ph],YG _ _ _ _⟩;clear au fs ag al ac;go_in;go_wp2_with fail
 go_loopw [8,9] (λlv V wr=>∃(d:Nat),V=ι d/\d<=a.length/\Hid (∀n∈a.take d,kF b B (cW n g)=true)/\Hid (sw W a g [.slice a1 n1 k1,.slice C a.length c,.slice a3 n3 k3,.slice a4 n4 k4,.bool pt,.bool ph] d lv wr)) (λ_ V _=>a.length-aV V)
 case atStart=>exact⟨0,rfl,Yh _,λn hn=>(by cases hn),H0⟩
 obtain⟨d,rfl,fs,F,r⟩:=hrel;have O:=r.u.df.cell 1 (by simp);simp only[X6,X7]at O;obtain⟨J,N,rfl⟩:=dR r.u.row;rw[Yk,YL,mY fs] at*;by_cases w:d<a.length
 ·have⟨an,cn,bn,on,he,D,v⟩:=dA.aD r.u.aP;cases he;obtain⟨rfl,aS⟩:=D (by omega);have d0:=v d w;unfold aK at d0;have t1:(d:Int)<a.length:=by omega
  have aN:=aE.u _ (Ym w);have T:Hid (kF b B (cW a[d] g)=true->∀n∈a.take (d+1),kF b B (cW n g)=true):=λh=>Tx F.u w h;have aL:Hid (kF b B (cW a[d] g)=false->a.all (λn=>kF b B (cW n g))=false):=λh=>by rw[aev];exact⟨_,Ym w,by rw[h];decide⟩
  have CR:=MB a[d] g wr (by omega) (by omega);have M:=λ(i f:ay) (o:Obj) (v':az) (z:μ wr i) (hg:(i.alloc o).grownBy f (Value.slice J d N).ownBlock) (ho:f.ownsRow (W.heap.size+1) 9 1 v' (d+1) (((a.take d).map λn=>cW n g).map aK++[aK (cW a[d] g)]))=>(r.u.aD z).push w hg (by rw[Yk,YL,mY fs];exact ho);have I:Hid (∀i,μ wr i->δ 111 #[π bb,σ (cW a[d] g)] i (.bool (kK b (cW a[d] g)))):=λi z=>Iz ((m.aD r.u.aP).aD z) hS _;have aH:=(m.aD r.u.aP).aW;obtain⟨U,Z,bf,pz,f0,s,ah⟩:=aH;have ax:=(m.aD r.u.aP).lt;have G:Hid (∀i,μ wr i->δ 45 #[.slice U B.length Z,σ (cW a[d] g)] i (ι (jW B (cW a[d] g)))):=λi z=>(qg B (cW a[d] g) U Z bf pz i (λe=>(s e).1) (λP X=>(ah.aP z (s (by omega)).2) P X) (by omega)).mono λe L h=>⟨h.1,h.2.symm⟩;have Q:Hid (∀i,μ wr i->i.χ bb 0=some (.slice U B.length Z)):=λi z=>(z.cell (p:=η bb 0) ax).trans f0;have aB:=rA (fs:=B) (p:=cW a[d] g);have y:Hid (kF b B (cW a[d] g)=((Pl.look B (cW a[d] g)).isSome||kK b (cW a[d] g))):=rfl;have av:=aC r.u.aP;have aw:=aC r.u.row;have R:=r.u.df.lt;generalize a[d]=ni at*;generalize cW ni g=q at*;clear s ah v f0 D;have K:Hid (wr.ownsRow (W.heap.size+1) 9 1 (.slice J d N) d (((a.take d).map λn=>cW n g).map aK)):=(by have:=aw.u;unfold eV at this;rw[Yk,YL,mY fs]at this;exact this);obtain⟨j,t⟩|⟨P,X,j,t⟩:=aB
  ·rw[j]at G;rw[t]at y;cases ad:kK b q with
   |true=>
    rw[ad]at I y;have E:=aC (T.u y.u);go_wp2_with (first|(go_at_call 153;refine κ CR λi l=>?_;have g0:=Q.u i l;have g1:=(l.cell (p:=η W.heap.size 1) R).trans O)|(go_at_call 111;refine(I.u _ l).mono ?_;rintro e f⟨rfl,rfl⟩)|(go_at_call 45;refine(G.u _ l).mono ?_;rintro e w3⟨rfl,rfl⟩)|(at_builtin;go_loud (refine YS _ rfl (.tmp 40) (.tmp 42) 30 rfl (W.heap.size+1) 9 i0 (ε) 1 16 YU ap.u x.u ar.u ai.u rfl (by decide) _ d _ rfl (Yz (bI K.u λk w=>l.block k (Yt K.u k w).2) _) (η _ 0) 1 1 [σ q] rfl rfl (Zl _ _ _) (uK) (by unfold maxLen;omega) (by omega) (by rw[X_];have:=l.size;omega) ?_;intro v3 w4 A H S Y;obtain⟨aM,aA,rfl⟩:=dR A;clear S Y)))
    first
     |exact⟨⟨d+1,by go_num,by omega,E,(M _ _ _ _ l H A)⟩,by simp only[aV];omega⟩
     |(go_roundw;exact⟨d+1,by go_num,by omega,E,(M _ _ _ _ l H A)⟩;simp only[aV];omega)
   |false=>
    rw[ad]at I y;have aI:=aC (aL.u y.u);go_wp2_with (first|(go_at_call 153;refine κ CR λi l=>?_;have g0:=Q.u i l;have g1:=(l.cell (p:=η W.heap.size 1) R).trans O)|(go_at_call 111;refine(I.u _ l).mono ?_;rintro e f⟨rfl,rfl⟩)|(go_at_call 45;refine(G.u _ l).mono ?_;rintro e w3⟨rfl,rfl⟩))
    go_ret2
    exact⟨.inl ⟨aI.u,rfl⟩,av.u.tr l⟩
  rw[j]at G;rw[t]at y;have E:=aC (T.u (by rw[y.u];rfl))
  go_wp2_with (first|(go_at_call 153;refine κ CR λi l=>?_;have g0:=Q.u i l;have g1:=(l.cell (p:=η W.heap.size 1) R).trans O)|(go_at_call 111;refine(I.u _ l).mono ?_;rintro e f⟨rfl,rfl⟩)|(go_at_call 45;refine(G.u _ l).mono ?_;rintro e w3⟨rfl,rfl⟩)|(at_builtin;go_loud (refine YS _ rfl (.tmp 40) (.tmp 42) 30 rfl (W.heap.size+1) 9 i0 (ε) 1 16 YU ap.u x.u ar.u ai.u rfl (by decide) _ d _ rfl (Yz (bI K.u λk w=>l.block k (Yt K.u k w).2) _) (η _ 0) 1 1 [σ q] rfl rfl (Zl _ _ _) (uK) (by unfold maxLen;omega) (by omega) (by rw[X_];have:=l.size;omega) ?_;intro v3 w4 A H S Y;obtain⟨aM,aA,rfl⟩:=dR A;clear S Y)))
  first
   |exact⟨⟨d+1,by go_num,by omega,E,(M _ _ _ _ l H A)⟩,by simp only[aV];omega⟩
   |(go_roundw;exact⟨d+1,by go_num,by omega,E,(M _ _ _ _ l H A)⟩;simp only[aV];omega)
 have t1:¬(d:Int)<a.length:=by omega
 have ae:d=a.length:=by omega
 have HR:Hid (eV wr (W.heap.size+1) (.slice J d N) (a.map λn=>cW n g)):=(by have:=r.u.row;rw[YF (by omega)]at this;exact this);have aG:Hid (a.all (λn=>kF b B (cW n g))=true):=by show _=_;rw[uu];have:=F.u;rwa [ae,YR]at this
 have HB:=r.u.aP;clear ae;go_wp2_with fail
 go_ret2
 exact⟨.inr ⟨aG.u,.slice J d N,rfl,HR.u⟩,HB⟩
def dP(x:Nr)(v:az):f':=[aK x.name,v,ir x.gW,aK x.stem,.bool x.ph,.bool false,ς]
def DG:f':=[.string ⟨#[]⟩,ς,ι 0,.string ⟨#[]⟩,.bool false,.bool false,ς]
structure jr(W:ay)(nb lo:Nat)(x:Nr)(v:az)(wr:ay):Prop where
 aP:μ W wr
 cS:aF wr W.heap.size 116 DG
 df:aF wr nb 116 (dP x v)
 row:eV wr lo v x.aH
 lt:W.heap.size<nb
 lo:nb<lo/\lo<=wr.heap.size
section
variable {x:Nr}
def jr.aD(h:jr W nb lo x v wr)(a:μ wr O):jr W nb lo x v O:=⟨h.aP.tr a,h.cS.aD a,h.df.aD a,bI h.row λk c=>a.block k (Yt h.row k c).2,h.lt,h.lo.1,Ye h.lo.2 a.size⟩
def jr.push(h:jr W nb lo x v wr){n:aj}(i:eV O lo v' (dj x.aH n))(a:wr.grownBy O v.ownBlock):jr W nb lo {x with aH:=dj x.aH n} v' (O.ψ nb 1 v')/\aF O nb 116 (dP x v)/\(∀q,q<lo->q≠nb->(O.ψ nb 1 v').heap[q]?=wr.heap[q]?)/\wr.heap.size<=(O.ψ nb 1 v').heap.size:=by
 have l:=h.lt;have e:=h.lo;have c:Below lo wr O:=⟨a.os,a.tape,a.output,a.size,λk d=>a.block k (by omega) (cQ h.row d)⟩;have j:=h.df.aP c e.1;have r:O.heap.size<=(O.ψ nb 1 v').heap.size:=by exact Zp (by simp)
 have g:∀q,q≠nb->(O.ψ nb 1 v').heap[q]?=O.heap[q]?:=λq u=>Ys _ _ _ _ u;have w:μ W (O.ψ nb 1 v'):=(h.aP.trans (c.mono (by omega))).setCell (p:=η nb 1) (lg l) _;refine⟨⟨w,(g _ (by omega)).trans (h.cS.aP c (by omega)),j.set 1 v',bI i λk d=>g k (by have:=(Yt i k d).1;omega),l,e.1,Ye (Ye e.2 a.size) r⟩,j,λq z y=>(g q y).trans (c.block q z),Ye a.size r⟩
def jr.set(h:jr W nb lo x v wr)(a:Nr){j:Nat}{u:az}(i:(j=2/\u=ir a.gW/\a ={x with gW:=a.gW })\/(j=3/\u=aK a.stem/\a ={x with stem:=a.stem})):jr W nb lo a v (wr.ψ nb j u):=by
 have l:=h.lt;have d:=h.lo;have e:∀q,q≠nb->(wr.ψ nb j u).heap[q]?=wr.heap[q]?:=λq w=>Ys _ _ _ _ w;have g:=h.df.set j u;refine⟨h.aP.setCell (p:=η nb j) (lg l) _,(e _ (by omega)).trans h.cS,?_,?_,l,d.1,Ye d.2 (Zp (by simp))⟩
 ·obtain⟨rfl,rfl,c⟩|⟨rfl,rfl,c⟩:=i
  ·rw[c];exact g
  rw[c];exact g
 have n:a.aH=x.aH:=by rcases i with⟨-,-,c⟩|⟨-,-,c⟩<;>rw[c]
 rw[n];exact bI h.row λk r=>e k (by have:=(Yt h.row k r).1;omega)
def jr.Wm(h:jr W nb lo x (ς) wr)(a:x.aH=[]):jr W nb wr.heap.size x (ς) wr:=by have:=h.lo;exact⟨h.aP,h.cS,h.df,by rw[a];exact YG _ _ _ _,h.lt,by omega,X0 _⟩
def jr.ze(h:jr W nb lo x v wr):jr W nb lo x v wr.drew:=⟨⟨h.aP.os,h.aP.tape,h.aP.output,h.aP.size,h.aP.block⟩,h.cS,h.df,bI h.row λ_ _=>rfl,h.lt,h.lo⟩
end
def sF(b:Bk)(d:fy)(c:aj):Nr×Bool:=
 if gh b.aG c (-1)=none/\fW b c=false then
  match ki b d c with
  |some a=>(⟨c,((b.aG.getD a db).nd.map λn=>cW n (gB ((b.aG.getD a db).tg.headD []) c)).foldl dj [],some a,gB ((b.aG.getD a db).tg.headD []) c,fW b c⟩,true)|none=>(⟨c,[],none,[],fW b c⟩,kK b c||(fW b c||(Pl.look d c).isSome))
 else(⟨c,[],gh b.aG c (-1),[],fW b c⟩,kK b c||(fW b c||(Pl.look d c).isSome))
def Vh{b:Bk}:de b B e=({(sF b B e).1 with aH:=mG b e (sF b B e).1.aH},(sF b B e).2):=by
 unfold de sF;by_cases a:gh b.aG e (-1)=none/\fW b e=false
 ·rw[Yd a,Yd a];cases ki b B e<;>rfl
 rw[Yb a,Yb a]
def KL(b:Bk)(c:fy)(a:aj)(W:ay)(e:Ending)(W':ay):Prop:=∃v,e=.returned (.tuple #[.agg (dP (de b c a).1 v).toArray,.bool (de b c a).2])/\eV W' (W.heap.size+1) v (de b c a).1.aH/\μ W W'
theorem sK:∀(c a:fv),(c.foldl dj a).length<=a.length+c.length
 |[],a=>by simp
 |x::d,a=>by
  rw[YP];have:=sK d (dj a x);have:(dj a x).length<=a.length+1:=by unfold dj;split<;>simp
  rw[Ya];omega
theorem FB{name:aj}:∀(rs:List Ru) (a:fv),(∀c∈rs,c.nd.length<=2000)->(rs.foldl (λa c=>if dz name c=true then c.nd.foldl dj a else a) a).length<=a.length+2000*rs.length
 |[],a,_=>by simp
 |c::rs,a,h=>by
  rw[YP];have:=FB (name:=name) rs (if dz name c=true then c.nd.foldl dj a else a) λq d=>h q (Yp _ d);have:=h c (Yq ..);have:(if dz name c=true then c.nd.foldl dj a else a).length<=a.length+2000:=by
   split
   ·have:=sK c.nd a;omega
   omega
  rw[Ya];omega
def ky(x:(Nr×Bool)×az):f':=[aK x.1.1.name,x.2,ir x.1.1.gW,aK x.1.1.stem,.bool x.1.1.ph,.bool x.1.2,ς]
theorem Cx:∀(xs:List ((Nr×Bool)×az)) (c a:Nat) (h:c<xs.length),a<7->(xs.flatMap ky)[c*7+a]?=(ky xs[c])[a]?
 |x::d,0,a,_,g=>by rw[YA,L1,YO,Zh (by simp[ky];omega)];rfl
 |x::d,c+1,a,h,g=>by
  have e:(c+1)*7+a=(ky x).length+(c*7+a):=by simp[ky];omega
  rw[YA,e,YH (by omega),ZP,Cx d c a (by simpa using h) g];simp
def sA(W:ay)(v:az):Prop:=∀a n c q,v=.slice a n c->a=some q->∃e d,W.heap[q.block]?=some (Obj.cells e 9 d)
def fO.kept{W X:ay}{v:az}{k:fv}(h:fO W v k)(l:sA W v)(p:∀(q:Nat) g d,W.heap[q]?=some (Obj.cells g 9 d)->X.heap[q]?=W.heap[q]?)(w:W.heap.size<=X.heap.size):fO X v k/\sA X v:=by
 refine⟨?_,λa n c q s m=>?_⟩
 ·have⟨a,f,b,o,r,j,u⟩:=h;refine⟨a,f,b,o,r,λe=>⟨(j e).1,Yo (j e).2 w⟩,λz y=>?_⟩;have⟨g,d,i⟩:=l a _ f (η b o) r (j (by omega)).1;have:=u z y;unfold World.cell? at this⊢;rw[p b g d i];exact this
 have⟨g,d,i⟩:=l a n c q s m;exact⟨g,d,(p _ g d i).trans i⟩
def eV.XP(h:eV W c v a):sA W v:=λk n B q b j=>by
 subst b j;obtain⟨d,_⟩|⟨i,f,e,d,_,g,_⟩:=h.2
 ·cases d
 cases d;exact⟨e,_,g⟩
structure fN(L0 W:ay)(wb bb:Nat)(fs:fy)(b:Bk)(vN vO:az)(xs:List ((Nr×Bool)×az))(t:Wk)(er:Nat):Prop where
 row:aF W wb 43 [π bb,vN,vO,ι (er:Int),ι 0]
 bW:nL L0 bb fs b
 bS:μ L0 W
 lt:L0.heap.size<=wb
 nx:xs.map (·.1)=t.aT
 aT:W.ownsRow (wb+1) 116 7 vN xs.length (xs.flatMap ky)
 aY:W.ownsRow (wb+1) 3 1 vO t.aY.length (t.aY.map λ(i:Nat)=>ι (i:Int))
 aH:∀x∈xs,fO W x.2 x.1.1.aH/\sA W x.2
structure jM(W W':ay)(wb:Nat)(vN vO vN' vO':az):Prop where
 bS:Below wb W W'
 jX:∀q,q<W.heap.size->q≠wb->some q≠vN.ownBlock->some q≠vO.ownBlock->W'.heap[q]?=W.heap[q]?
 zL:vN'.ownBlock=vN.ownBlock\/∃q,vN'.ownBlock=some q/\W.heap.size<=q
 zJ:vO'.ownBlock=vO.ownBlock\/∃q,vO'.ownBlock=some q/\W.heap.size<=q
section
variable {fs:fy}{b:Bk}{xs:List ((Nr×Bool)×az)}{t:Wk}
def jM.refl(W:ay)(c:Nat)(b a:az):jM W W c b a b a:=⟨X5 _ _,λ_ _ _ _ _=>rfl,.inl rfl,.inl rfl⟩
def jM.bq(a:μ W W')(c:wb<=W.heap.size):jM W W' wb vN vO vN vO:=⟨a.mono c,λq d _ _ _=>a.block q d,.inl rfl,.inl rfl⟩
def jM.trans(h:jM W W' wb vN vO vN' vO')(k:jM W' X wb vN' vO' R Q):jM W X wb vN vO R Q:=by
 have:=h.bS.size;refine⟨h.bS.trans k.bS,λq g a d c=>?_,?_,?_⟩
 ·rw[k.jX q (by omega) a (λe=>?_) (λe=>?_),h.jX q g a d c]
  ·obtain b|⟨p,b,f⟩:=h.zL
   ·exact d (e.trans b)
   rw[b]at e;cases e;omega
  obtain b|⟨p,b,f⟩:=h.zJ
  ·exact c (e.trans b)
  rw[b]at e;cases e;omega
 ·obtain e|⟨p,b,f⟩:=k.zL
  ·rw[e];exact h.zL
  exact .inr ⟨p,b,by omega⟩
 obtain e|⟨p,b,f⟩:=k.zJ
 ·rw[e];exact h.zJ
 exact .inr ⟨p,b,by omega⟩
def fN.aD(h:fN L0 W wb bb fs b vN vO xs t er)(a:μ W W'):fN L0 W' wb bb fs b vN vO xs t er:=⟨h.row.aD a,h.bW,h.bS.tr a,h.lt,h.nx,bI h.aT λk c=>a.block k (Yt h.aT k c).2,bI h.aY λk c=>a.block k (Yt h.aY k c).2,λx d=>(h.aH x d).1.kept (h.aH x d).2 (λq _ _ e=>a.block q (X8.1 e).1) a.size⟩
def fN.vm(h:fN L0 W wb bb fs b vN vO xs t er):∃a cap g,vN=.slice a xs.length cap/\(0<xs.length->a=some ⟨g,0,none⟩)/\∀c (i:c<xs.length) (d:Nat) (u:az),(ky xs[c])[d]?=some u->W.cell? ⟨g,c*7+d,none⟩=some u:=by
 by_cases j:0<xs.length
 ·obtain⟨g,cap,e,-,-⟩:=dv h.aT j;refine⟨_,cap,g,e,λ_=>rfl,λc i d u l=>?_⟩;have n:=h.aT;rw[e]at n;have p:d<7:=by have:=(Yl.1 l).1;simpa [ky]using this
  exact gY n (c*7+d) u (by rw[Cx xs c d i p];exact l)
 have⟨a,cap,e⟩:=dR h.aT;exact⟨a,cap,0,e,λq=>absurd q j,λc i=>by omega⟩
end
def Qp{b:Bk}{f:List ((Nr×Bool)×az)}{t:Wk}(h:fN L0 W wb bb B b vN vO f t er)(J:f.length<=1073741824)(name:aj):
 Calls prog 55 #[π wb,.string ⟨name.toArray⟩] W λe W'=>e=.returned (ir (dG t.aT name))/\W' =W:=by
 have m:=h.row.cell 1 (by simp);simp only[X6,X7]at m;obtain⟨a,k,H,rfl,E,z⟩:=h.vm;have j:Hid (dG t.aT name=f.findIdx? λx=>x.1.1.name==name):=(by unfold dG;rw[<-h.nx,adv];rfl);go_in;go_wp2
 go_loopw [5] (λl wr=>∃c:Nat,l=ι c/\c<=f.length/\Hid (∀d (g:d<f.length),d<c->(f[d].1.1.name==name)=false)/\wr=W) (λl _=>f.length-aV l)
 case atStart=>exact⟨0,rfl,Yh _,λd g F=>(by omega),rfl⟩
 obtain⟨c,rfl,F,i,C⟩:=hrel;subst C;by_cases p:c<f.length
 ·obtain rfl:=E (by omega);have w:=(aC z).u c p 0 _ rfl;have:(c:Int)<f.length:=by omega
  unfold aK at w;rw[ZH]at w;cases r:f[c].1.1.name==name with
  |true=>
   have n:Hid (dG t.aT name=some c):=(by rw[j.u,YM];exact⟨p,r,λd g=>by rw[i.u d (by omega) g];decide⟩);generalize f[c].1.1.name=A at*;go_wp2
   go_ret;exact⟨by rw[n.u];rfl,rfl⟩
  |false=>
   have y:Hid (∀d (g:d<f.length),d<c+1->(f[d].1.1.name==name)=false):=(λd g I=>by
    by_cases e:d=c
    ·subst e;exact r
    exact i d g (by omega))
   generalize f[c].1.1.name=A at*;go_wp2
   first
    |exact⟨⟨c+1,by go_num,by omega,y,by trivial⟩,by simp only[aV];omega⟩
    |(go_roundw;exact⟨c+1,by go_num,by omega,y,by trivial⟩;simp only[aV];omega)
 have:¬(c:Int)<f.length:=by omega
 have n:Hid (dG t.aT name=none):=(by rw[j.u,Zg];intro x G;obtain⟨d,g,rfl⟩:=ZD G;exact i d g (by omega));go_wp2
 go_ret;exact⟨by rw[n.u];rfl,rfl⟩
def sH{i:Program}{l:kt}{o:Oper}{a:Act}{K:Act->ay->Prop}{Q:Exit->Act->ay->Prop}{E:Prop}(B:o.guard=none)(s x:Operand)(t:TypeId)(C:o.op=Op.call {callee:=Callee.builtin Builtin.append,args:= #[s,x],argTypes:= #[t,t]})(T:Nat)(e:TypeId)(h:TypeInfo)(z:az)(size bytes:Nat)(H:i.underlying t=some (.slice e))(y:i.info? e=some h)(R:h.zero=some z)(G:h.size=size)(J:h.bytes=bytes)(Z:z.cells.size=size)(I:0<size)(v:az)(n:Nat)(b:f')(S:a.eval s=v)(q:W.ownsRow T e size v n b)(j:Addr)(m c:Nat)(g:f')(U:a.eval x=.slice (some j) m c)(V:g.length=m*size)(f:∀p u,g[p]?=some u->W.cell? (j.add p)=some u)(N:∀u∈g,u.oneCell' =true)(r:n+m<=maxLen)(P:(n+m)*bytes<=140737488355328)(F:T<=W.heap.size)(L:∀v' d,d.ownsRow T e size v' (n+m) (b++g)->W.grownBy d v.ownBlock->(v'.ownBlock=v.ownBlock\/v'.ownBlock=some W.heap.size)->K (a.put o.dst v') d):
 if Region.wanted o (yielded l a.tmps)=true then Oper.wp i o a W K Q else E:=by
 have M:Region.wanted o (yielded l a.tmps)=true:=by simp[Region.wanted,B]
 rw[Yd M];have⟨v',d,O,A,Y,k,D⟩:=aes (P:=i) (w:=W) T t o.type e h z size bytes H y R G J Z I v n b q j m c g V f N r P F;unfold Oper.wp;simp[execOp,C,resolve,invoke,builtin,S,U,O,Result.andThen];exact L v' d A Y D
section
variable {α:Type}{f:α->f'}
theorem Ke(a:∀x,(f x).length=k):∀xs:List α,(xs.flatMap f).length=xs.length*k
 |[]=>by simp
 |x::c=>by rw[YA,X4,Ke a c,a,Ya,l5];omega
theorem qA(d:∀x,(f x).length=k):∀(xs:List α) (c a:Nat) (i:c<xs.length),a<k->(xs.flatMap f)[c*k+a]?=(f xs[c])[a]?
 |x::h,0,a,_,g=>by rw[YA,L1,YO,Zh (by rw[d];exact g)];rfl
 |x::h,c+1,a,i,g=>by
  have e:(c+1)*k+a=(f x).length+(c*k+a):=by rw[d,l5];omega
  rw[YA,e,YH (by omega),ZP,qA d h c a (by simpa using i) g];simp
def UB(g:∀x,(f x).length=k)(a:List α)(z d:α)(c:Nat)(u:az)(h:(f z).set c u=f d):((a++[z]).flatMap f).set (a.length*k+c) u=(a++[d]).flatMap f:=by have e:=Ke g a;rw[Zq,Zq,Zc _ _ (by omega),e,ZP];simp only[YA,List.flatMap_nil,ZR];rw[h]
end
structure ej(W W':ay)(bb:Nat)(os os':f'):Prop where
 bS:Below bb W W'
 jX:∀q,q<W.heap.size->q≠bb->(∀v∈os,some q≠v.ownBlock)->W'.heap[q]?=W.heap[q]?
 jP:∀v∈os',∀q,v.ownBlock=some q->W.heap.size<=q\/∃u∈os,u.ownBlock=some q
def ej.refl(W:ay)(b:Nat)(a:f'):ej W W b a a:=⟨X5 _ _,λ_ _ _ _=>rfl,λv d _ c=> .inr ⟨v,d,c⟩⟩
def ej.bq(c:μ W W')(d:bb<=W.heap.size):ej W W' bb j j:=⟨c.mono d,λq a _ _=>c.block q a,λv e _ a=> .inr ⟨v,e,a⟩⟩
def ej.trans(h:ej W W' bb j w)(k:ej W' X bb w z):ej W X bb j z:=by
 have:=h.bS.size;refine⟨h.bS.trans k.bS,λq i c d=>?_,λv a q g=>?_⟩
 ·rw[k.jX q (by omega) c (λv a e=>?_),h.jX q i c d];obtain f|⟨u,b,f⟩:=h.jP v a q e.symm
  ·omega
  exact d u b f.symm
 obtain e|⟨u,b,e⟩:=k.jP v a q g
 ·exact .inl (by omega)
 exact h.jP u b q e
def Fz(W:ay)(b:Nat)(a:f')(v:az):Prop:=∀q,v.ownBlock=some q->q<W.heap.size/\q≠b/\∀u∈a,some q≠u.ownBlock
def Fz.cY(h:Fz W bb j v)(a:ej W W' bb j w):Fz W' bb w v:=λq i=>by
 have⟨l,c,g⟩:=h q i;refine⟨Yo l a.bS.size,c,λu d e=>?_⟩;obtain b|⟨t,f,b⟩:=a.jP u d q e.symm
 ·omega
 exact g t f b.symm
def fO.cY{k:fv}(h:fO W v k)(p:Fz W bb j v)(g:ej W W' bb j w):fO W' v k:=by have⟨a,f,b,o,d,c,q⟩:=h;refine⟨a,f,b,o,d,λe=>⟨(c e).1,Yo (c e).2 g.bS.size⟩,λi u=>?_⟩;have⟨n,l,r⟩:=p b (by rw[d,(c (by omega)).1];rfl);exact(tq (a:=η b (o+i)) (g.jX b n l r)).trans (q i u)
def mr.cY(h:mr W v F)(p:Fz W bb j v)(g:ej W W' bb j w):mr W' v F:=by have⟨a,f,b,o,d,c,q⟩:=h;refine⟨a,f,b,o,d,λe=>⟨(c e).1,Yo (c e).2 g.bS.size⟩,λi u=>?_⟩;have⟨n,l,r⟩:=p b (by rw[d,(c (by omega)).1];rfl);exact(tq (a:=η b (o+i)) (g.jX b n l r)).trans (q i u)
structure Rm where
 tg:fv
 nd:fv
 ss:fv
 ls:gb
 cD:Bool
 ph:Bool
 vt:az
 vn:az
 vs:az
 vl:az
def XK:Rm:=⟨[],[],[],[],false,false,ς,ς,ς,ς⟩
def my(x:Rm):f':=[x.vt,x.vn,x.vs,x.vl,.bool x.cD,.bool x.ph]
def mU(x:Rn):f':=[aK x.name,aK x.aU,.bool x.jF]
def dC(n:Nat):az:= ι (n:Int)
structure Bm where
 cZ:js
 xs:List Rm
 tk:Nat
 er:Nat
 ln:Nat
 vN:az
 vR:az
def Bm.dN(m:Bm):Rm:=m.xs.getLast?.getD XK
def Bm.os(m:Bm):f':=[m.vN,m.vR,m.dN.vs,m.dN.vl]
structure zF(W:ay)(bb:Nat)(os:f')(x:Rm):Prop where
 s:fO W x.vs x.ss
 sz:Fz W bb os x.vs
 l:mr W x.vl x.ls
 lz:Fz W bb os x.vl
structure qP(W:ay)(bb:Nat)(os:f')(x:Rm):Prop where
 t:fO W x.vt x.tg
 tz:Fz W bb os x.vt
 n:fO W x.vn x.nd
 nz:Fz W bb os x.vn
def zF.cY{x:Rm}(h:zF W bb j x)(a:ej W W' bb j w):zF W' bb w x:=⟨h.s.cY h.sz a,h.sz.cY a,h.l.cY h.lz a,h.lz.cY a⟩
def qP.cY{x:Rm}(h:qP W bb j x)(a:ej W W' bb j w):qP W' bb w x:=⟨h.t.cY h.tz a,h.tz.cY a,h.n.cY h.nz a,h.nz.cY a⟩
structure cV(L0 W:ay)(bb:Nat)(vf:az)(fs:fy)(m:Bm):Prop where
 row:aF W bb 111 [vf,m.vN,m.vR,dC m.tk,dC m.er,dC m.ln]
 bS:μ L0 W
 lt:L0.heap.size<=bb
 fl:∃a cap b o,vf=.slice a fs.length cap/\(0<fs.length->a=some ⟨b,o,none⟩/\b<L0.heap.size)/\eJ L0 b o fs
 cZ:W.ownsRow (bb+1) 223 3 m.vN m.cZ.length (m.cZ.flatMap mU)
 gP:W.ownsRow (bb+1) 147 6 m.vR m.xs.length (m.xs.flatMap my)
 mQ:W.ownsRow (bb+1) 9 1 m.dN.vs m.dN.ss.length (m.dN.ss.map aK)
 ng:W.ownsRow (bb+1) 3 1 m.dN.vl m.dN.ls.length (m.dN.ls.map dC)
 qY:∀x∈m.xs,qP W bb m.os x
 fS:∀x∈m.xs.dropLast,zF W bb m.os x
def eV.vU{B:Nat}(h:W.ownsRow B 9 1 v a.length (a.map aK)):fO W v a:=by
 by_cases c:0<a.length
 ·have⟨j,b,e,l,i⟩:=dv h c;rw[e]at h⊢;refine⟨_,b,j,0,rfl,λ_=>⟨rfl,i⟩,λg d=>?_⟩;rw[YO];exact gY h g _ (by rw[Za,X9 d];rfl)
 have⟨f,b,e⟩:=dR h;exact⟨f,b,0,0,e,λe=>absurd e c,λg d=>by omega⟩
def Co{B:Nat}(h:W.ownsRow B 3 1 v F.length (F.map dC)):mr W v F:=by
 by_cases c:0<F.length
 ·have⟨j,b,e,l,i⟩:=dv h c;rw[e]at h⊢;refine⟨_,b,j,0,rfl,λ_=>⟨rfl,i⟩,λg d=>?_⟩;rw[YO];exact gY h g _ (by rw[Za,X9 d];rfl)
 have⟨a,b,e⟩:=dR h;exact⟨a,b,0,0,e,λe=>absurd e c,λg d=>by omega⟩
def IX{α:Type}{b:List α}{x:α}(h:x∈b):x∈b.dropLast\/b.getLast?=some x:=by
 have a:=List.ne_nil_of_mem h;rw[<-ZA a,Yv,Yc]at h;obtain h|h:=h
 ·exact .inl h
 exact .inr (by rw[abR a,h])
section
variable {fs:fy}{m:Bm}
def cV.bG(h:cV L0 W bb vf fs m):∀v∈m.os,∀q,v.ownBlock=some q->bb<q/\q<W.heap.size:=λv c q a=>by
 unfold Bm.os at c;simp only[YD,ZC,k8]at c;obtain rfl|rfl|rfl|rfl:=c
 ·have:=Yt h.cZ q a;omega
 ·have:=Yt h.gP q a;omega
 ·have:=Yt h.mQ q a;omega
 have:=Yt h.ng q a;omega
def cV.KV(h:cV L0 W bb vf fs m)(i:∀q,q<W.heap.size->q≠bb->X.heap[q]?=W.heap[q]?)(g:Below bb W X)(l:aF X bb 111 [vf,m.vN,m.vR,dC U,dC S,dC V]):cV L0 X bb vf fs {m with tk:=U,er:=S,ln:=V}/\ej W X bb m.os m.os:=by
 have c:ej W X bb m.os m.os:=⟨g,λq r j _=>i q r j,λv e _ p=> .inr ⟨v,e,p⟩⟩;have a:∀v∈m.os,∀k,v.ownBlock=some k->X.heap[k]?=W.heap[k]?:=λv e k n=>by have:=h.bG v e k n;exact i k this.2 (by omega)
 exact⟨⟨l,h.bS.trans (g.mono h.lt),h.lt,h.fl,bI h.cZ (a m.vN (by simp[Bm.os])),bI h.gP (a m.vR (by simp[Bm.os])),bI h.mQ (a m.dN.vs (by simp[Bm.os])),bI h.ng (a m.dN.vl (by simp[Bm.os])),λx d=>(h.qY x d).cY c,λx d=>(h.fS x d).cY c⟩,c⟩
def cV.aD(h:cV L0 W bb vf fs m)(a:μ W X):cV L0 X bb vf fs m/\ej W X bb m.os m.os:=h.KV (λq c _=>a.block q c) (a.mono (lg h.row.lt)) (h.row.aD a)
def cV.bh(h:cV L0 W bb vf fs m)(a b g f n:Nat)(d:(a=3/\b=n/\g=m.er/\f=m.ln)\/(a=4/\b=m.tk/\g=n/\f=m.ln)\/(a=5/\b=m.tk/\g=m.er/\f=n)):cV L0 (W.ψ bb a (dC n)) bb vf fs {m with tk:=b,er:=g,ln:=f}/\ej W (W.ψ bb a (dC n)) bb m.os m.os:=by refine h.KV (λq _ c=>Ys _ _ _ _ c) ((X5 _ _).setCell (p:=η bb a) ax _) ?_;have e:=h.row.set a (dC n);rcases d with⟨rfl,rfl,rfl,rfl⟩|⟨rfl,rfl,rfl,rfl⟩|⟨rfl,rfl,rfl,rfl⟩<;>exact e
def cV.ap(g:W.ownsRow (bb+1) c T v nb w)(d:W.ownsRow (bb+1) o k i lo j)(h:c≠o):∀q,v.ownBlock=some q->some q≠i.ownBlock:=λq f b=>by
 obtain a|a:=mc g d h
 ·rw[f]at a;cases a
 exact a (f.trans b)
def cV.name(h:cV L0 W bb vf fs m){x:Rn}(c:W.grownBy X m.vN.ownBlock)(w:X.ownsRow (bb+1) 223 3 v (m.cZ.length+1) (m.cZ.flatMap mU++mU x))(G:v.ownBlock=m.vN.ownBlock\/∃q,v.ownBlock=some q/\W.heap.size<=q):
 cV L0 (X.ψ bb 1 v) bb vf fs {m with cZ:=m.cZ++[x],vN:=v}/\ej W (X.ψ bb 1 v) bb m.os [v,m.vR,m.dN.vs,m.dN.vl]/\aF X bb 111 [vf,m.vN,m.vR,dC m.tk,dC m.er,dC m.ln]:=by
 have y:=h.lt;have z:∀q,q≠bb->(X.ψ bb 1 v).heap[q]?=X.heap[q]?:=λq a=>Ys _ _ _ _ a;have E:=h.row.lt;have D:=h.bG;have A:aF X bb 111 [vf,m.vN,m.vR,dC m.tk,dC m.er,dC m.ln]:=(c.block _ E (λe=>by have:=(Yt h.cZ bb e.symm).1;omega)).trans h.row;have C:∀q,q<W.heap.size->q≠bb->some q≠m.vN.ownBlock->(X.ψ bb 1 v).heap[q]?=W.heap[q]?:=λq g l n=>(z q l).trans (c.block q g n);have F:Below bb W X:=⟨c.os,c.tape,c.output,c.size,λk d=>c.block k (by omega) (λe=>by have:=(Yt h.cZ k e.symm).1;omega)⟩;have B:=F.setCell (p:=η bb 1) ax v;have j:ej W (X.ψ bb 1 v) bb m.os [v,m.vR,m.dN.vs,m.dN.vl]:=by
  refine⟨B,λq g l n=>C q g l (n m.vN (by simp[Bm.os])),λu i q a=>?_⟩;simp only[YD,ZC,k8]at i;rcases i with rfl|rfl|rfl|rfl
  ·rcases G with e|⟨p,e,b⟩
   ·exact .inr ⟨m.vN,by simp[Bm.os],e▸a⟩
   rw[e]at a;cases a;exact .inl b
  ·exact .inr ⟨m.vR,by simp[Bm.os],a⟩
  ·exact .inr ⟨m.dN.vs,by simp[Bm.os],a⟩
  exact .inr ⟨m.dN.vl,by simp[Bm.os],a⟩
 have d:∀u∈m.os,(∀q,u.ownBlock=some q->some q≠m.vN.ownBlock)->∀q,u.ownBlock=some q->(X.ψ bb 1 v).heap[q]?=W.heap[q]?:=λu i g q a=>by have:=D u i q a;exact C q this.2 (by omega) (g q a)
 refine⟨⟨A.set 1 v,h.bS.trans (B.mono y),y,h.fl,?_,bI h.gP (d m.vR (by simp[Bm.os]) (cV.ap h.gP h.cZ (by decide))),bI h.mQ (d m.dN.vs (by simp[Bm.os]) (cV.ap h.mQ h.cZ (by decide))),bI h.ng (d m.dN.vl (by simp[Bm.os]) (cV.ap h.ng h.cZ (by decide))),λx r=>(h.qY x r).cY j,λx r=>(h.fS x r).cY j⟩,j,A⟩;rw[X4,Zq];refine bI (by simpa using w) λk d=>z k (by have:=(Yt w k d).1;omega)
end
variable {r:List Rm}
section
variable {fs:fy}{m:Bm}
def Bm.pH{z:Rm}(h:m.xs=r++[z]):m.dN=z:=by unfold Bm.dN;rw[h,List.getLast?_concat];rfl
def cV.push(h:cV L0 W bb vf fs m)(hy:qP W bb m.os ⟨a,g,[],[],D,E,i,n,ς,ς⟩)(d:W.grownBy X m.vR.ownBlock)(N:X.ownsRow (bb+1) 147 6 v (m.xs.length+1) (m.xs.flatMap my++[i,n,ς,ς,.bool D,.bool E]))(H:v.ownBlock=m.vR.ownBlock\/∃q,v.ownBlock=some q/\W.heap.size<=q):
 cV L0 (X.ψ bb 2 v) bb vf fs {m with xs:=m.xs++[⟨a,g,[],[],D,E,i,n,ς,ς⟩],vR:=v}/\ej W (X.ψ bb 2 v) bb m.os [m.vN,v,ς,ς]/\aF X bb 111 [vf,m.vN,m.vR,dC m.tk,dC m.er,dC m.ln]:=by
 have O:=h.lt;have P:∀q,q≠bb->(X.setCell ⟨bb,2,none⟩ v).heap[q]?=X.heap[q]?:=λq c=>Ys _ _ _ _ c;have aa:=h.row.lt;have F:=h.bG;have Q:aF X bb 111 [vf,m.vN,m.vR,dC m.tk,dC m.er,dC m.ln]:=(d.block _ aa (λe=>by have:=(Yt h.gP bb e.symm).1;omega)).trans h.row;have I:∀q,q<W.heap.size->q≠bb->some q≠m.vR.ownBlock->(X.setCell ⟨bb,2,none⟩ v).heap[q]?=W.heap[q]?:=λq j A z=>(P q A).trans (d.block q j z);have s:Below bb W X:=⟨d.os,d.tape,d.output,d.size,λk r=>d.block k (by omega) (λe=>by have:=(Yt h.gP k e.symm).1;omega)⟩;have y:=s.setCell (p:=⟨bb,2,none⟩) ax v;have C:ej W (X.setCell ⟨bb,2,none⟩ v) bb m.os [m.vN,v,ς,ς]:=by
  refine⟨y,λq j A z=>I q j A (z m.vR (by simp[Bm.os])),λu w q c=>?_⟩;simp only[YD,ZC,k8]at w;obtain rfl|rfl|rfl|rfl:=w
  ·exact .inr ⟨m.vN,by simp[Bm.os],c⟩
  ·obtain e|⟨p,e,o⟩:=H
   ·exact .inr ⟨m.vR,by simp[Bm.os],e▸c⟩
   rw[e]at c;cases c;exact .inl o
  ·cases c
  cases c
 have r:∀u∈m.os,(∀q,u.ownBlock=some q->some q≠m.vR.ownBlock)->∀q,u.ownBlock=some q->(X.setCell ⟨bb,2,none⟩ v).heap[q]?=W.heap[q]?:=λu w j q c=>by have:=F u w q c;exact I q this.2 (by omega) (j q c)
 have ab:=y.size;have J:∀(u:az),u∈m.os->(∀q,u.ownBlock=some q->some q≠m.vN.ownBlock)->(∀q,u.ownBlock=some q->some q≠m.vR.ownBlock)->Fz (X.setCell ⟨bb,2,none⟩ v) bb [m.vN,v,ς,ς] u:=λu w j A q c=>by
  have z:=F u w q c;refine⟨by omega,by omega,λt G e=>?_⟩;simp only[YD,ZC,k8]at G;obtain rfl|rfl|rfl|rfl:=G
  ·exact j q c e
  ·obtain f|⟨p,f,o⟩:=H
   ·exact A q c (e.trans f)
   rw[f]at e;cases e;omega
  ·cases e
  cases e
 have B:Bm.dN {m with xs:=m.xs++[⟨a,g,[],[],D,E,i,n,ς,ς⟩],vR:=v}=⟨a,g,[],[],D,E,i,n,ς,ς⟩:=Bm.pH rfl;refine⟨⟨Q.set 2 v,h.bS.trans (y.mono O),O,h.fl,bI h.cZ (r m.vN (by simp[Bm.os]) (cV.ap h.cZ h.gP (by decide))),?_,?_,?_,λx l=>?_,λx l=>?_⟩,C,Q⟩
 ·show World.ownsRow _ _ _ _ _ (m.xs++[_]).length ((m.xs++[_]).flatMap my);rw[X4,Zq];refine bI (by simpa [my]using N) λk r=>P k (by have:=(Yt N k r).1;omega)
 ·rw[B];exact YG _ _ _ _
 ·rw[B];exact YG _ _ _ _
 ·unfold Bm.os;rw[B];obtain l|l:=Yv.1 l
  ·exact(h.qY x l).cY C
  rw[Yc.1 l];exact hy.cY C
 unfold Bm.os;rw[B];have Z:x∈m.xs:=by have e:(m.xs++[(⟨a,g,[],[],D,E,i,n,ς,ς⟩:Rm)]).dropLast=m.xs:=Z6;rw[<-e];exact l
 obtain b|b:=IX Z
 ·exact(h.fS x b).cY C
 have T:m.dN=x:=by unfold Bm.dN;rw[b];rfl
 have R:=h.mQ;have L:=h.ng;have U:m.dN.vs∈m.os:=by simp[Bm.os]
 have M:m.dN.vl∈m.os:=by simp[Bm.os]
 have Y:=r _ U (cV.ap h.mQ h.gP (by decide));have V:=r _ M (cV.ap h.ng h.gP (by decide));have S:=J _ U (cV.ap h.mQ h.cZ (by decide)) (cV.ap h.mQ h.gP (by decide));have K:=J _ M (cV.ap h.ng h.cZ (by decide)) (cV.ap h.ng h.gP (by decide));rw[T]at R L Y V S K;exact⟨eV.vU (bI R Y),S,Co (bI L V),K⟩
def cV.vA(h:cV L0 W bb vf fs m){z:Rm}(A:m.xs=r++[z])(O:m.vR=ξ c m.xs.length o){z':Rm}{j:Nat}{v:az}(hc:(my z).set j v=my z')(ht:z'.vt=z.vt/\z'.vn=z.vn/\z'.tg=z.tg/\z'.nd=z.nd)(i:W.grownBy X J)(V:J=z.vs.ownBlock\/J=z.vl.ownBlock)(ab:X.ownsRow (bb+1) 9 1 z'.vs z'.ss.length (z'.ss.map aK))(ac:X.ownsRow (bb+1) 3 1 z'.vl z'.ls.length (z'.ls.map dC))(a1:∀q,z'.vs.ownBlock=some q->W.heap.size<=q\/z.vs.ownBlock=some q)(a2:∀q,z'.vl.ownBlock=some q->W.heap.size<=q\/z.vl.ownBlock=some q):
 cV L0 (X.ψ c (r.length*6+j) v) bb vf fs {m with xs:=r++[z']}/\ej W (X.ψ c (r.length*6+j) v) bb m.os [m.vN,m.vR,z'.vs,z'.vl]/\aF X bb 111 [vf,m.vN,m.vR,dC m.tk,dC m.er,dC m.ln]/\X.ownsRow (bb+1) 147 6 m.vR m.xs.length (m.xs.flatMap my):=by
 have U:=h.lt;have E:=Bm.pH A;have N:m.vR.ownBlock=some c:=by rw[O];rfl
 have:=Yt h.gP c N;have M:∀q,q≠c->(X.ψ c (r.length*6+j) v).heap[q]?=X.heap[q]?:=λq d=>Ys _ _ _ _ d;have I:=h.mQ;have F:=h.ng;rw[E]at I F;have H:∀q,J=some q->bb<q/\q<W.heap.size/\some q≠m.vN.ownBlock/\some q≠m.vR.ownBlock:=λq d=>by
  obtain e|e:=V
  ·have w:=Yt I q (e▸d);exact⟨by omega,w.2,cV.ap I h.cZ (by decide) q (e▸d),cV.ap I h.gP (by decide) q (e▸d)⟩
  have w:=Yt F q (e▸d);exact⟨by omega,w.2,cV.ap F h.cZ (by decide) q (e▸d),cV.ap F h.gP (by decide) q (e▸d)⟩
 have Z:aF X bb 111 [vf,m.vN,m.vR,dC m.tk,dC m.er,dC m.ln]:=(i.block _ h.row.lt (λe=>by have:=(H bb e.symm).1;omega)).trans h.row;have hb:Below bb W X:=⟨i.os,i.tape,i.output,i.size,λk l=>i.block k (by have:=h.row.lt;omega) (λe=>by have:=(H k e.symm).1;omega)⟩;have Y:=hb.setCell (p:=η c (r.length*6+j)) (show bb<=c by omega) v;have aa:∀q,q<W.heap.size->q≠c->some q≠J->(X.ψ c (r.length*6+j) v).heap[q]?=W.heap[q]?:=λq w C g=>(M q C).trans (i.block q w g);have L:=bI h.gP λk l=>i.block k (Yt h.gP k l).2 (λe=>(H k e.symm).2.2.2 l.symm);have b:Bm.dN {m with xs:=r++[z']}=z':=Bm.pH rfl;have G:ej W (X.ψ c (r.length*6+j) v) bb m.os [m.vN,m.vR,z'.vs,z'.vl]:=by
  refine⟨Y,λq w C g=>aa q w (λe=>g m.vR (by simp[Bm.os]) (by rw[N,e])) (λe=>?_),λu D q d=>?_⟩
  ·obtain s|s:=V
   ·exact g m.dN.vs (by simp[Bm.os]) (by rw[E];exact e.trans s)
   exact g m.dN.vl (by simp[Bm.os]) (by rw[E];exact e.trans s)
  simp only[YD,ZC,k8]at D;obtain rfl|rfl|rfl|rfl:=D
  ·exact .inr ⟨m.vN,by simp[Bm.os],d⟩
  ·exact .inr ⟨m.vR,by simp[Bm.os],d⟩
  ·obtain e|e:=a1 q d
   ·exact .inl e
   exact .inr ⟨m.dN.vs,by simp[Bm.os],by rw[E];exact e⟩
  obtain e|e:=a2 q d
  ·exact .inl e
  exact .inr ⟨m.dN.vl,by simp[Bm.os],by rw[E];exact e⟩
 have K:∀{e a n:Nat} {u:az} {Q:f'},X.ownsRow (bb+1) e a u n Q->e≠147->(X.ψ c (r.length*6+j) v).ownsRow (bb+1) e a u n Q:=λD he=>bI D λk l=>M k (λB=>cV.ap D L he k l (by rw[N,B]));refine⟨⟨(M bb (by omega)).trans Z,h.bS.trans (Y.mono U),U,h.fl,K (bI h.cZ λk l=>i.block k (Yt h.cZ k l).2 (λe=>(H k e.symm).2.2.1 l.symm)) (by decide),?_,?_,?_,λx y=>?_,λx y=>?_⟩,G,Z,L⟩
 ·have R:=L;rw[O]at R;have C:=sR R (r.length*6+j) v;rw[A,UB (f:=my) (λ_=>rfl) r z z' j v hc]at C;show World.ownsRow _ _ _ _ m.vR (r++[z']).length ((r++[z']).flatMap my);rw[O,A];simpa using C
 ·rw[b];exact K ab (by decide)
 ·rw[b];exact K ac (by decide)
 ·unfold Bm.os;rw[b];obtain y|y:=Yv.1 y
  ·exact(h.qY x (by rw[A];exact YK _ y)).cY G
  rw[Yc.1 y];have g:=(h.qY z (by rw[A];simp)).cY G;have⟨S,P,T,t4⟩:=ht;exact⟨by rw[S,T];exact g.t,by rw[S];exact g.tz,by rw[P,t4];exact g.n,by rw[P];exact g.nz⟩
 unfold Bm.os;rw[b];have B:(r++[z']).dropLast=r:=Z6;have s:m.xs.dropLast=r:=by rw[A];exact Z6
 exact(h.fS x (by rw[s,<-B];exact y)).cY G
end
def Rm.key(x:Rm):fv×fv×fv×gb×Bool×Bool:=(x.tg,x.nd,x.ss,x.ls,x.cD,x.ph)
def Ru.key(a:Ru):fv×fv×fv×gb×Bool×Bool:=(a.tg,a.nd,a.cs.map (·.1),a.cs.map (·.2),a.cD,a.ph)
structure km(m:Bm)(b:Bk):Prop where
 cZ:m.cZ=b.aX
 tk:m.tk=b.cF
 er:m.er=b.cH
 ln:m.ln=b.cC
 rs:m.xs.map Rm.key=b.aG.map Ru.key
def km.len{m:Bm}{b:Bk}(h:km m b):m.xs.length=b.aG.length:=by have:=Yg List.length h.rs;simpa using this
def cV.tU{m:Bm}(h:cV L0 W bb vf B m):qV W m.vN m.cZ:=by
 by_cases g:0<m.cZ.length
 ·have⟨p,b,e,w,q⟩:=dv h.cZ g;have n:=h.cZ;rw[e]at n⊢;refine⟨_,b,p,0,rfl,λ_=>rfl,λd l=>?_,λ_=>q⟩;have i:∀c u,(mU m.cZ[d])[c]?=some u->W.χ p (d*3+c)=some u:=λc u j=>by have r:c<3:=(Yl.1 j).1;exact gY n _ u (by rw[qA (f:=mU) (λ_=>rfl) m.cZ d c l r];exact j)
  rw[YO];exact⟨i 0 _ rfl,i 1 _ rfl,i 2 _ rfl⟩
 have⟨a,b,e⟩:=dR h.cZ;exact⟨a,b,0,0,e,λe=>absurd e g,λd l=>by omega,λe=>absurd e g⟩
def cV.vB{m:Bm}{b:Bk}(h:cV L0 W bb vf B m)(d:km m b):nL W bb B b:=by
 have y:=d.len;have I:=h.row.cell 0 (by simp);have C:=h.row.cell 1 (by simp);have p:=h.row.cell 2 (by simp);have H:=h.row.cell 4 (by simp);have D:=h.row.cell 5 (by simp);simp only[X6,X7]at I C p H D;refine⟨h.row.lt,?_,⟨m.vN,C,by rw[<-d.cZ];exact h.tU⟩,?_,by rw[H,d.er];rfl,by rw[D,d.ln];rfl⟩
 ·obtain⟨a,k,T,o,rfl,i,P⟩:=h.fl;exact⟨a,k,T,o,I,λe=>⟨(i e).1,Yo (i e).2 h.bS.size⟩,λc d=>(P.aP h.bS (i (by omega)).2) c d⟩
 by_cases r:0<m.xs.length
 ·have⟨x,k,e,U,i⟩:=dv h.gP r;rw[e]at p;have F:=h.gP;rw[e]at F;refine⟨_,k,x,0,by rw[<-y];exact p,λ_=>⟨rfl,i⟩,λc A=>?_⟩;have q:c<m.xs.length:=by omega
  have g:∀j u,(my m.xs[c])[j]?=some u->W.χ x (0+c*6+j)=some u:=λj u E=>by have R:j<6:=(Yl.1 E).1;rw[YO];exact gY F _ u (by rw[qA (f:=my) (λ_=>rfl) m.xs c j q R];exact E)
  have w:Rm.key m.xs[c]=Ru.key b.aG[c]:=by have:=Yg (λS=>S[c]?) d.rs;simp only[Za,X9 A,X9 q,T',H9]at this;exact this
  unfold Rm.key Ru.key at w;simp only[adH]at w;have⟨J,Q,K,L,M,O⟩:=w;have z:=h.qY m.xs[c] (Ym q);have G:fO W m.xs[c].vs m.xs[c].ss/\mr W m.xs[c].vl m.xs[c].ls:=by
   obtain v|v:=IX (Ym q)
   ·exact⟨(h.fS _ v).s,(h.fS _ v).l⟩
   have N:m.dN=m.xs[c]:=by unfold Bm.dN;rw[v];rfl
   rw[<-N];exact⟨eV.vU h.mQ,Co h.ng⟩
  exact⟨_,_,_,_,g 0 _ rfl,g 1 _ rfl,g 2 _ rfl,g 3 _ rfl,by rw[<-M];exact g 4 _ rfl,by rw[<-O];exact g 5 _ rfl,by rw[<-J];exact z.t,by rw[<-Q];exact z.n,by rw[<-K];exact G.1,by rw[<-L];exact G.2⟩
 have⟨a,k,e⟩:=dR h.gP;rw[e]at p;exact⟨a,k,0,0,by rw[<-y];exact p,λe=>absurd (y▸e) r,λc A=>absurd (show 0<m.xs.length by omega) r⟩
def iB(T:Nat)(b:Bk)(N:Nat):Prop:=∃k,iM T b k/\k+N+(100-b.cF)*(T+1)<=101*(T+1)
section
variable {b b':Bk}{N add:Nat}
def iB.step(h:iB T b (N+add))(g:∀k,iM T b k->eF T b k b' add):iB T b' N:=by
 have⟨k,d,c⟩:=h;have⟨j,i,a,l⟩:=g k d;refine⟨i,a,?_⟩;have:=a.cF;have e:100-b.cF=(100-b'.cF)+(b'.cF-b.cF):=by omega
 rw[e,L2]at c;omega
def iB.zo(h:iB T b N)(c:add<=N):iB T b add:=by have⟨k,a,d⟩:=h;exact⟨k,a,by omega⟩
def iB.cF(h:iB T b N)(d:b.cF<100):iB T {b with cF:=b.cF+1} (N+(T+1)):=by
 have⟨k,a,c⟩:=h;refine⟨k,⟨a.fU,a.ru,a.nl,a.nf,a.nt,a.ns,by show b.cF+1<=100;omega,a.cC,a.cH⟩,?_⟩;have e:100-b.cF=(100-(b.cF+1))+1:=by omega
 rw[e,L2,Nat.one_mul]at c;show k+(N+(T+1))+(100-(b.cF+1))*(T+1)<=_;omega
def iB.dH(h:iB T b N)(d:c<=9)(g:o<=T+1):iB T (b.dH c o) N:=by have⟨k,a,e⟩:=h;exact⟨k,a.dH d g,e⟩
def iB.size(h:iB T b N)(w:T<=1048576):nM b:=by
 have⟨k,a,u⟩:=h
 refine⟨a.fU,λj l=>?_,⟨by have:=a.nl;omega,a.nf,λx q=>by have:=a.nt x q;omega,by have:=a.ns;omega⟩,a.cF,by have:=a.cC;omega,a.cH⟩;have⟨n,d,i,e,y,g⟩:=a.ru j l;exact⟨n,d,i,e,by omega,λc p=>by have:=g.1 c p;omega⟩
def iB.aX(h:iB T b N)(d:T<=1048576):b.aX.length<=105906277:=by
 have⟨k,a,c⟩:=h
 have:=a.nl;omega
end
def oG(g:ay)(b:Nat)(d:az)(f:fy)(c:f')(b':Bk)(W:ay)(e:Ending)(W':ay):Prop:=(∃v,e=.returned v)/\∃a,cV g W' b d f a /\km a b' /\ej W W' b c a.os
def oG.bo{b':Bk}{e:Ending}(h:oG L0 bb vf B w b' X e W')(a:ej W X bb j w):oG L0 bb vf B j b' W e W':=by have⟨g,m,c,i,d⟩:=h;exact⟨g,m,c,i,a.trans d⟩
def cV.cells{m:Bm}(h:cV L0 W bb vf B m):W.cell? ⟨bb,0,none⟩=some vf/\W.cell? ⟨bb,1,none⟩=some m.vN/\W.cell? ⟨bb,2,none⟩=some m.vR/\W.cell? ⟨bb,3,none⟩=some (ι m.tk)/\W.cell? ⟨bb,4,none⟩=some (ι m.er)/\W.cell? ⟨bb,5,none⟩=some (ι m.ln):=⟨h.row.cell 0 (by simp),h.row.cell 1 (by simp),h.row.cell 2 (by simp),h.row.cell 3 (by simp),h.row.cell 4 (by simp),h.row.cell 5 (by simp)⟩
def nX{m:Bm}{b:Bk}(h:cV L0 W bb vf B m)(a:km m b)(g:b.cH=0)(e n:Nat):
 Calls prog 106 #[π bb,ι e,ι n] W λx W'=>oG L0 bb vf B m.os (b.dH e n) W x W':=by
 obtain⟨-,-,-,-,l,-⟩:=h.cells;have:=h.row.frozen 4;rw[a.er,g]at l;have⟨c,j⟩:=h.bh 4 m.tk e m.ln e (.inr (.inl ⟨rfl,rfl,rfl,rfl⟩));obtain⟨-,-,-,-,-,r⟩:=c.cells;have:=c.row.frozen 5;have⟨d,i⟩:=c.bh 5 m.tk e n n (.inr (.inr ⟨rfl,rfl,rfl,rfl⟩));have p:∀x,oG L0 bb vf B m.os (b.dH e n) W (.returned x) ((W.ψ bb 4 (dC e)).ψ bb 5 (dC n)):=λx=>⟨⟨x,rfl⟩,_,d,⟨a.cZ,a.tk,rfl,rfl,a.rs⟩,j.trans i⟩;unfold dC at*;go_in;go_wp2
 refine Yw (Zr rfl _ _ _) rfl ?_;exact p _
def qX(n:Nat)(c:Int)(L a:aA):az:=.agg #[ι (n:Int),.int .u8 c,.string L,.string a]


