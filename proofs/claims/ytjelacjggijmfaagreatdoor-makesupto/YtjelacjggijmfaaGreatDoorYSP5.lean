/- . -/
import Derived.Test.YtjelacjggijmfaaGreatDoorYSP2
import Derived.Shelf.RegionOpen
import Derived.OwnWalkIn
import Derived.LoopNIn
import Derived.LoopIn
set_option linter.all false
set_option maxHeartbeats 1000000
set_option maxRecDepth 20000
namespace Go.Proofs.YtjelacjggijmfaaGreatDoor
open Pl Mk Cp Proofs.Tryz
section
open RowKit
def gE(a:gO):az:=.agg #[.int .u8 a.op,ι a.bp,ι a.next,ι a.first,ι a.pN]
def Da{a:Nat}:(oy a=true->jt a=1+iN a+jw a)/\(oy a=false->jt a=0):=by
 by_cases h:a<=8
 ·have:a=0\/a=1\/a=2\/a=3\/a=4\/a=5\/a=6\/a=7\/a=8:=by omega
  rcases this with rfl|rfl|rfl|rfl|rfl|rfl|rfl|rfl|rfl<;>decide
 have e:oy a=false:=by unfold oy;simp only[ZB];omega
 rw[e];refine⟨λh=>(by cases h),λ_=>?_⟩;unfold jt
 repeat rw[Yb (by omega)]
def KM(a:Nat):iN a<=2/\jw a<=2:=by
 unfold iN jw;constructor
 ·split
  ·omega
  split<;>omega
 split<;>omega
def TH(c:aj)(a:Nat)(h:oy (Pl.opAt c a)=true):
 bH c a=⟨Pl.opAt c a,a,a+1+iN (Pl.opAt c a)+jw (Pl.opAt c a),if iN (Pl.opAt c a)=0 then 0 else if iN (Pl.opAt c a)=1 then Pl.opAt c (a+1) else two c (a+1),
  if jw (Pl.opAt c a)=0 then 0 else if jw (Pl.opAt c a)=1 then Pl.opAt c (a+1+iN (Pl.opAt c a)) else two c (a+1+iN (Pl.opAt c a))⟩:=by
 unfold bH;have:Pl.opAt c a=1\/Pl.opAt c a=2\/Pl.opAt c a=3\/Pl.opAt c a=4\/Pl.opAt c a=5\/Pl.opAt c a=6\/Pl.opAt c a=7\/Pl.opAt c a=8:=by unfold oy at h;simp only[Zy]at h;omega
 rcases this with h|h|h|h|h|h|h|h<;>rw[h]<;>simp[jt,iN,jw]
def Qx(s:aA)(c:Nat)(w:ay)(J:c<s.size)(S:s.size<=8388608)(m:Pl.cU s.data.toList c):
 Calls prog 170 #[.string s,ι c] w λe G=>e=.returned (.tuple #[gE (bH s.data.toList c),.bool true])/\μ w G:=by
 have t:=sS s c J;have y:=yV s.data.toList c;have p:oy (Pl.opAt s.data.toList c)=true:=by
  cases h:oy (Pl.opAt s.data.toList c) with
  |true=>rfl|false=>exact absurd ((Da).2 h) m.1
 have z:=(Da).1 p;have B:=m.2;rw[z,<-YJ]at B;have⟨E,C⟩:=KM (Pl.opAt s.data.toList c);have j:=aC (TH s.data.toList c p);have x:=λw=>Ay (Pl.opAt s.data.toList c) y w;have r:=aC (A' s (c+1) (iN (Pl.opAt s.data.toList c)) (by omega) E);have o:=aC (A' s (c+1+iN (Pl.opAt s.data.toList c)) (jw (Pl.opAt s.data.toList c)) (by omega) C);rw[p]at x;have K:=aC t;clear m z t y;generalize Pl.opAt s.data.toList c=M at*;generalize iN M=a at*;generalize jw M=b at*;obtain⟨q,g⟩:∃q,q=c+1:=⟨_,rfl⟩;obtain⟨d,i⟩:∃d,d=c+1+a:=⟨_,rfl⟩;obtain⟨f,k⟩:∃f,f=c+1+a+b:=⟨_,rfl⟩;rw[<-k,<-i,<-g]at j;rw[<-i,<-g]at r;rw[<-k,<-i]at o;have n:IntKind.i64.wrap ((c:Int)+1)=(q:Int):=by simp[IntKind.wrap,IntKind.signed,IntKind.bits];omega
 have l:IntKind.i64.wrap ((q:Int)+a)=(d:Int):=by simp[IntKind.wrap,IntKind.signed,IntKind.bits];omega
 have A:((c:Int)+1+(a:Int)+b)=(f:Int):=by omega
 have L:=aC n;have D:=aC l;have I:=aC A;have:q<=d:=by omega
 have:d<=f:=by omega
 have:d<=s.size:=by omega
 have:f<=s.size:=by omega
 have:d<=q+2:=by omega
 have:f<=d+2:=by omega
 clear n l A;go_in;go_wp2_with fail
 rw[<-K.u];refine(x _).mono ?_;rintro e F⟨rfl,rfl⟩;go_wp2_with fail
 rw[I.u];have n:=L.u;have l:=D.u;clear g i k;go_region_with (go_at_call 168;refine(E_ _ (by simp[ByteArray.size_extract];omega)).mono ?_;rintro e F⟨rfl,rfl⟩)
 all_goals go_wp2_with fail
 have H:Hid (gE (bH s.data.toList c)=.agg #[.int .u8 M,ι c,ι f,ι (rO (s.extract q d):Nat),ι (rO (s.extract d f):Nat)]):=by show _=_;rw[j.u,r.u,o.u];rfl
 clear j r o;rw[H.u];refine Yw (v:=.tuple #[.agg #[.int .u8 M,ι c,ι f,ι (rO (s.extract q d):Nat),ι (rO (s.extract d f):Nat)],.bool true]) ?_ rfl ⟨rfl,(ak w _).drew⟩;simp[results,results170,go_sem]
def Sr(s:aA)(c:Nat)(w:ay)(l:c<s.size)(o:s.size<=8388608)(d:¬Pl.cU s.data.toList c):
 Calls prog 170 #[.string s,ι c] w λe n=>e=.returned (.tuple #[gE ⟨0,0,0,0,0⟩,.bool false])/\μ w n:=by
 have g:=aC (λw=>Ay (Pl.opAt s.data.toList c) (yV s.data.toList c) w);have⟨r,q⟩:=KM (Pl.opAt s.data.toList c);have j:=aC (sS s c l);unfold Pl.cU at d;rw[<-YJ]at d;cases f:oy (Pl.opAt s.data.toList c) with
 |false=>
  rw[f]at g;generalize Pl.opAt s.data.toList c=h at*;generalize iN h=a at*;generalize jw h=b at*;go_in;go_wp2_with fail
  rw[<-j.u];refine(g _).mono ?_;rintro e m⟨rfl,rfl⟩;go_wp2_with fail
  refine Yw (v:=.tuple #[gE ⟨0,0,0,0,0⟩,.bool false]) ?_ rfl ⟨rfl,ak w _⟩;simp[results,results170,go_sem,gE]
 |true=>
  rw[f]at g;have:s.size<c+(1+iN (Pl.opAt s.data.toList c)+jw (Pl.opAt s.data.toList c)):=by rw[(Da).1 f]at d;omega
  generalize Pl.opAt s.data.toList c=h at*;generalize iN h=a at*;generalize jw h=b at*;go_in;go_wp2_with fail
  rw[<-j.u];refine(g _).mono ?_;rintro e m⟨rfl,rfl⟩;go_wp2_with fail
  refine Yw (v:=.tuple #[gE ⟨0,0,0,0,0⟩,.bool false]) ?_ rfl ⟨rfl,ak w _⟩;simp[results,results170,go_sem,gE]
end
section
variable {b e i:ay}{a g:Nat}{d:List (gO×Bool)}{j:aj}
open RowKit Shelf
section
attribute [local go_sem] Kp
def xu(x:gO×Bool):hZ:= #[gE x.1,.bool x.2]
def Ab(a:μ e b):e.grownBy b none:=⟨a.os,a.tape,a.output,a.size,λk c _=>a.block k c⟩
def UU{β:Type}{B:β->ay->Prop}(h:OwnFrom a B){s:β}(W:B s b):B s b.drew:=h s b _ none W ⟨rfl,rfl,rfl,X0 _,λ_ _ _=>rfl⟩ (λc e=>by cases e)
def uz{β:Type}{B:β->ay->Prop}(h:OwnFrom a B){s:β}{W:ay}(d:B s W)(c:μ W b):B s b:=h s W b none d (Ab c) (λf e=>by cases e)
def qj(c:μ e b):KeepsFrom a e b:=⟨c.size,λd _ _ B _=>(c.block d (X8.1 B).1).trans B⟩
structure jn(Bt:Nat)(_:Nat)(W W':ay):Prop where
 aU:∀(c:hZ) (f:Nat×Nat),W.heap[Bt]?=some (Obj.cells c 9 f)->W'.heap[Bt]?=some (Obj.cells c 9 f)
 DZ:∀(k:Nat) (c:hZ) (f:Nat×Nat),W.heap[k]?=some (Obj.cells c 254 f)->W'.heap[k]?=some (Obj.cells c 254 f)
 size:W.heap.size<=W'.heap.size
def jn.trans(h:jn a g e i)(k:jn a g i b):jn a g e b:=⟨λc f B=>k.aU c f (h.aU c f B),λd c f B=>k.DZ d c f (h.DZ d c f B),Ye h.size k.size⟩
def jn.putObj(g:Nat)(W:ay)(a:Nat)(d e:Obj)(b:W.heap[a]?=some d)(i:d.isCells=false):jn g a W (W.putObj a e):=by
 refine⟨λc f h=>?_,λk c f h=>?_,(G1 W a e).size⟩;all_goals refine(Zo ?_).trans h
 all_goals rintro rfl
 all_goals(rw [h]at b;cases b;cases i)
def jn.aP(d:a<e.heap.size)(c:μ e b):jn a g e b:=⟨λ_ _ h=>(c.block a d).trans h,λk _ _ h=>(c.block k (X8.1 h).1).trans h,c.size⟩
structure j5(c:aj)(aZ:List (gO×Bool))(f p:Nat):Prop where
 eq:kJ c (c.length+1) 0=aZ++kJ c f p
 qL:c.length<f+p
 le:p<=c.length
def j5.start(c:aj):j5 c [] (c.length+1) 0:=⟨rfl,by omega,Yh _⟩
def j5.done(h:j5 j d g a)(b:¬a<j.length):kJ j (j.length+1) 0=d:=by
 rw[h.eq];cases g with
 |zero=>simp[kJ]
 |succ g=>rw[kJ,Yb b];simp
def j5.step{f:Nat}(h:j5 j d f a)(i:a<j.length)(g:Pl.cU j a):
 ∃b,kJ j (j.length+1) 0=d++(bH j a,true)::kJ j b (bH j a).next/\j5 j (d++[(bH j a,true)]) b (bH j a).next:=by have:=h.qL;obtain⟨b,rfl⟩:∃b,f=b+1:=⟨f-1,by omega⟩;have e:=h.eq;rw[show kJ j (b+1) a=(bH j a,true)::kJ j b (bH j a).next from(by rw[kJ,Yd i];exact Yd g)]at e;have:=sY g;exact⟨b,e,by rw[e];simp,by omega,yU g⟩
def j5.im(h:j5 j d g a)(c:a<j.length)(i:¬Pl.cU j a):
 kJ j (j.length+1) 0=d++[(⟨0,0,0,0,0⟩,false)]:=by have:=h.qL;obtain⟨b,rfl⟩:∃b,g=b+1:=⟨g-1,by omega⟩;have e:=h.eq;rwa [show kJ j (b+1) a=[(⟨0,0,0,0,0⟩,false)] from(by rw[kJ,Yd c];exact Yb i)]at e
def aV:az->Nat
 | .int _ n=>n.toNat
 |_=>0
def instructions_any{s:aA}:
 Calls prog 129 #[.string s] b λe a=>e=.returned (.func (.func 169) #[] #[π b.heap.size])/\b.alloc (.cells #[.string s] 9)=a:=by
 go_in;go_wp2
 go_ret;exact⟨rfl,rfl⟩
def I1(s:aA)(a:Nat)(w:ay)(S:s.size<=8388608)(N:w.heap[a]?=some (.cells #[.string s] 9 (0,0))):
 xE prog 169 #[.pointer (some ⟨a,0,none⟩)] xu (jn a) (kJ s.data.toList (s.data.toList.length+1) 0) w:=by
 intro ai aa C W aj hW J am P h0;have ac:=(X8.1 N).1;have ag:=(hW.block a ac).trans N;refine callsIn_of_wp func169 rfl trivial ?_;simp only[ntmps169,ZM,Ya,Yr,Nat.reduceAdd,Nat.reduceSub,Rr,RR,R3,R1,Y2,Y3];gi_wp2
 gi_loopw [3] (λx wr=>∃(g:List (gO×Bool)) (f b:Nat),x=.int .i64 b/\Hid (j5 s.data.toList g f b)/\Hid (aa g wr)/\Hid (wr.heap[a]?=some (.cells #[.string s] 9 (0,0)))) (λx _=>s.size-aV x)
 case atStart=>exact⟨[],_,0,rfl,j5.start _,h0,ag⟩
 obtain⟨g,f,b,rfl,k,o,A⟩:=hrel;have m:=YJ s;have V:=k.u.le;rw[<-m]at V;have ak:wr.cell? ⟨a,0,none⟩=some (.string s):=by have:=A.u;simp[World.cell?,this]
 have af:=(X8.1 A.u).1;by_cases Q:b<s.size
 ·have t:b<s.data.toList.length:=by omega
  by_cases h:Pl.cU s.data.toList b
  ·have⟨ad,H,E⟩:=k.u.step t h;have q:=Qx s b wr Q S h;have R:=yU h;rw[<-m]at R;have Y:=sY h;generalize bH s.data.toList b=ah at*;have i:=aC H;clear H m t h k;gi_wp2_with fail
   refine⟨trivial,(Zm.2 q).mono ?_⟩;rintro e l⟨rfl,d⟩;obtain⟨op,n,j,F,G⟩:=ah;simp only at R Y;have p:=uz J o.u (d.alloc d.size (.cells #[.int .u8 op,.int .i64 n,.int .i64 j,.int .i64 F,.int .i64 G] 254));have⟨fn,Z,U,X,c,r⟩:=P g _ _ _ i.u p;have M:(l.alloc (.cells #[.int .u8 op,.int .i64 n,.int .i64 j,.int .i64 F,.int .i64 G] 254)).heap[a]?=some (.cells #[.string s] 9 (0,0)):=((d.alloc d.size _).block a af).trans A.u;have D:=aC M;have O:(l.alloc (.cells #[.int .u8 op,.int .i64 n,.int .i64 j,.int .i64 F,.int .i64 G] 254)).heap[l.heap.size]?=some (.cells #[.int .u8 op,.int .i64 n,.int .i64 j,.int .i64 F,.int .i64 G] 254 (0,0)):=H5 l _;have L:=aC O;have HX:Hid (∀B,C (g++[((⟨op,n,j,F,G⟩:gO),true)]) B ->∃g post,kJ s.data.toList (s.data.toList.length+1) 0=g++post/\C g B):=λB hx=>⟨_,_,by rw[i.u,List.append_cons],hx⟩;clear p o M O d i q;unfold gE;unfold xu gE at c;simp only at c⊢;gi_wp2_with fail
   refine(xY r).mono ?_;rintro e I (⟨rfl,v,z⟩|⟨rfl,y,-⟩)
   ·have ae:=aC v;have T:=z.DZ _ _ _ L.u;have al:I.cell? ⟨l.heap.size,2,none⟩=some (.int .i64 j):=by simp[World.cell?,T]
    have ab:=aC (z.aU _ _ D.u);clear v z T c D L;gi_wp2_with fail
    go_roundw
    case rel=>exact⟨_,ad,j,rfl,E,ae,ab⟩
    simp only[aV];omega
   clear c;gi_wp2_with fail
   refine Yw (Zr rfl _ _ _) rfl ?_;exact⟨⟨_,rfl⟩,.inr (HX.u _ y)⟩
  have i:=aC (k.u.im t h);have q:=Sr s b wr Q S h;clear m t h k;gi_wp2_with fail
  refine⟨trivial,(Zm.2 q).mono ?_⟩;rintro e l⟨rfl,d⟩;have p:=uz J o.u (d.alloc d.size (.cells #[.int .u8 0,.int .i64 0,.int .i64 0,.int .i64 0,.int .i64 0] 254));have⟨fn,Z,U,X,c,r⟩:=P g _ [] _ i.u p;clear p o d q;unfold gE;unfold xu gE at c;have K:((0:Nat):Int)=0:=rfl;simp only[K]at c⊢;clear K;gi_wp2_with fail
  refine(xY r).mono ?_;rintro e I (⟨rfl,v,-⟩|⟨rfl,y,-⟩)
  ·clear c;gi_wp2_with fail
   refine Yw (Zr rfl _ _ _) rfl ?_;exact⟨⟨_,rfl⟩,.inl (by rw[i.u];exact v)⟩
  clear c;gi_wp2_with fail
  refine Yw (Zr rfl _ _ _) rfl ?_;exact⟨⟨_,rfl⟩,.inr ⟨_,[],by rw[i.u,ZR],y⟩⟩
 have HD:=aC (k.u.done (by omega));clear m;gi_wp2
 go_end0
 exact⟨⟨_,rfl⟩,.inl (by rw[HD.u];exact o.u)⟩
end
end
section
open RowKit Maps
variable {c d:ay}{l:DataW Unit}{m:Aw}{n o:Nat}
def EC{b:ib}(h:c.drew.grownBy d b):c.grownBy d b:=⟨h.os,h.tape,h.output,h.size,h.block⟩
def xC:Keyed prog 3:=int_keyed YY
def KU:(zeroValue 3).run prog c=.ok (ι 0) c:=by kernel_rfl
def kI(n:Nat):Lit:=.int .i64 n
def Lc(n:Nat)(a:n<=9223372036854775807):keyOf prog 3 (ι n)=some (kI n):=keyOf_int_mk YY (WalkArith.wf_i64 (by omega))
abbrev Mw (w:ay)(b n:Nat)(D:DataW Unit):Prop:=w.ownsMap prog 3 (plainElem prog 3) b n D
structure kE(D:DataW Unit)(A:Aw):Prop where
 bp:∀p,(A p=none->has D (kI p)=false)/\(∀h,A p=some h->has D (kI p)=true/\∀z,D.atKey (kI p) z=.lit (.int .i64 h))
 only:∀k,has D k=true->∃p,k=kI p
def yw(f:kE l m){c:Int}(d:l.atKey (kI n) (.lit (.int .i64 0))=.lit (.int .i64 c)):
 ((!has l (kI n))||(c==(o:Int)))=true↔Pl.n_ m n o:=by
 unfold Pl.n_;cases e:m n with
 |none=>rw[(f.bp n).1 e];simp
 |some q=>
  have⟨i,g⟩:=(f.bp n).2 q e;rw[g]at d;have j:(q:Int)=c:=by simpa using d
  rw[i,<-j];simp only[adE,l8,Zj,H9];constructor
  ·rintro b k rfl;omega
  intro b;have:=b q rfl;omega
def Fx(b d n m h a:Nat)(D:DataW Unit)(A:Aw)(w:ay)(f:aF w b 249 [.int .i64 m,.int .i64 h,.map (some d)])(j:Mw w d n D)(r:kE D A)(G:a<=16777216)(z:b≠d):
 Calls prog 130 #[.pointer (some (η b 0)),.int .i64 a] w λe l=>(∃k:Bool,e=.returned (.bool k)/\(k=true↔Pl.n_ A a h))/\Mw l d n (D.del (kI a))/\w.grownBy l (some d):=by
 have y:=f.cell 2 (by simp);simp only[X6,X7]at y;have HR:=aC f;have p:=aC (Lc a (by omega));have s:=aC j;go_in;go_wp2_with (first|(at_lookup;refine aeB _ rfl _ _ 247 rfl 3 3 .i64 xC Z_ YY (KU) d n _ rfl s _ _ rfl p ?_;intro c o H)|(at_delete;refine wpList_delete_own _ rfl _ _ 247 3 rfl 3 xC Z_ _ d n D rfl s _ _ rfl p ?_;intro F t i;have B:=HR.grown i.grown (λe=>z (YW e));have v:=B.cell 1 (by simp);simp only[X6,X7]at v)|go_in)
 all_goals go_ret
 ·have g:has D (kI a)=true:=by assumption
  refine⟨⟨_,rfl,?_⟩,t,i.grown⟩;rw[<-yw r o,g];simp
 have g:has D (kI a)=false:=by rename_i C;simpa using C
 refine⟨⟨_,rfl,?_⟩,t,i.grown⟩;rw[<-yw r o,g];simp
def kE.del(c:kE l m)(a:Nat):kE (l.del (kI a)) (Pl.del m a):=by
 refine⟨λq=>?_,λk d=>?_⟩
 case refine_2=>
  by_cases h:k=kI a
  ·exact⟨a,h⟩
  rw[has_del_other h]at d;exact c.only k d
 unfold Pl.del;by_cases h:q=a
 ·subst h;rw[Yd rfl];exact⟨λ_=>has_del_same,λ_ e=>by cases e⟩
 rw[Yb h];have b:kI q≠kI a:=by intro e;apply h;have:=e;simp only[kI,Lit.int.injEq,Zw]at this;omega
 refine⟨λe=>(has_del_other b).trans ((c.bp q).1 e),λx e=>?_⟩;have⟨g,f⟩:=(c.bp q).2 x e;exact⟨(has_del_other b).trans g,λz=>(atKey_del_other b z).trans (f z)⟩
def kE.put(d:kE l m)(f:IsMap l)(a h:Nat):kE (l.put (kI a) (.lit (.int .i64 h))) (Pl.put m a h):=by
 have g:WideAt.IsKeyLit (kI a):=trivial;refine⟨λq=>?_,λk i=>?_⟩
 case refine_2=>
  by_cases h:k=kI a
  ·exact⟨a,h⟩
  rw[has_put_other h]at i;exact d.only k i
 unfold Pl.put;by_cases c:q=a
 ·subst c;rw[Yd rfl];refine⟨λe=>(by cases e),λx e=>?_⟩;cases e;exact⟨has_put_same f g _,λz=>atKey_put_same f g _ z⟩
 rw[Yb c];have b:kI q≠kI a:=by intro e;apply c;have:=e;simp only[kI,Lit.int.injEq,Zw]at this;omega
 refine⟨λe=>(has_put_other b _).trans ((d.bp q).1 e),λx e=>?_⟩;have⟨D,j⟩:=(d.bp q).2 x e;exact⟨(has_put_other b _).trans D,λz=>(atKey_put_other b _ z).trans (j z)⟩
def kE.start:kE (.map []) (λ_=>none):=⟨λ_=>⟨λ_=>rfl,λ_ e=>by cases e⟩,λ_ e=>by cases e⟩
def kE.empty(a:kE l m)(j:Mw c n o l):Maps.size l=0↔∀q,m q=none:=by
 obtain⟨d,rfl,D,A⟩:=j.entries xC;constructor
 ·intro h q;have:=Y4.1 h;subst this;cases e:m q with|none=>rfl|some x=>have:=((a.bp q).2 x e).1;cases this
 intro h;cases d with|nil=>rfl|cons x k=>have f:has (.map (x::k)) x.1=true:=Z1.2 ⟨x,by simp,WideAt.sameKey_self (A x (by simp))⟩;have⟨i,D⟩:=a.only _ f;have g:=(a.bp i).1 (h i);rw[<-D,f]at g;cases g
def PT(b d n m h a:Nat)(D:DataW Unit)(A:Aw)(w:ay)(f:aF w b 249 [.int .i64 m,.int .i64 h,.map (some d)])(i:Mw w d n D)(r:kE D A)(J:a<=16777216)(g:h<=16)(M:n<=16777216)(G:b≠d):
 Calls prog 172 #[.pointer (some (η b 0)),.int .i64 a] w λe l=>(∃k:Bool,e=.returned (.bool k)/\(k=true↔Pl.n_ A a h))/\Mw l d (n+1) (D.put (kI a) (.lit (.int .i64 h)))/\w.grownBy l (some d):=by
 have C:=f.cell 1 (by simp);have E:=f.cell 2 (by simp);simp only[X6,X7]at C E;have p:=aC (Lc a (by omega));have⟨I,K,s,j⟩:=(i.drew).store (t:=247) (e:=3) xC Z_ (by unfold maxLen;omega) p (plainElem_int YY (WalkArith.wf_i64 (show (-9223372036854775808:Int)<=(h:Int)/\(h:Int)<=9223372036854775807 by omega)));have z:=(f.drew.grown j.grown (λe=>G (YW e))).cell 1 (by simp);simp only[X6,X7]at z;go_in;go_wp2_with (first|(at_lookup;refine aeB _ rfl _ _ 247 rfl 3 3 .i64 xC Z_ YY (KU) d n _ rfl i _ _ rfl p ?_;intro c o L)|go_in)
 go_region
 go_wp2
 all_goals go_ret
 ·have g:has D (kI a)=true:=by assumption
  refine⟨⟨_,rfl,?_⟩,s,EC j.grown⟩;rw[<-yw r o,g];simp
 have g:has D (kI a)=false:=by rename_i H;simpa using H
 refine⟨⟨_,rfl,?_⟩,s,EC j.grown⟩;rw[<-yw r o,g];simp
end
section
open RowKit Maps
def Oh(b n m h:Nat)(c:gO)(w:ay)(d:aF w b 249 [ι m,ι h,.map (some n)])(k:1<=c.op)(o:c.op<=8):
 Calls prog 131 #[π b,gE c] w λe j=>(∃f:Bool,e=.returned (.bool f)/\(f=true↔oX m c))/\μ w j:=by
 have⟨op,p,r,F,G⟩:=c;simp only at k o;unfold gE;simp only;have i:=λa=>d.alloc a;have q:∀a,(w.alloc a).χ b 0=some (ι m):=λa=>by have:=(i a).cell 0 (by simp);simpa using this
 have:op=1\/(op=2\/op=7)\/op=3\/(op=4\/op=5\/op=6\/op=8):=by omega
 obtain rfl|l|rfl|s:=this
 ·go_in;go_wp2
  all_goals go_ret
  all_goals refine⟨⟨_,rfl,?_⟩,ak w _⟩
  all_goals(unfold oX;simp;omega)
 ·obtain rfl|rfl:=l;all_goals go_in
  all_goals go_wp2
  all_goals go_region
  all_goals go_wp2
  all_goals go_ret
  all_goals refine⟨⟨_,rfl,?_⟩,(ak w _).drew⟩
  all_goals(unfold oX;simp)
 ·by_cases g:F<m
  ·go_in;go_wp2
   go_region
   all_goals go_wp2
   all_goals go_ret
   all_goals refine⟨⟨_,rfl,?_⟩,(ak w _).drew⟩
   all_goals(unfold oX;simp[g])
  go_in;go_wp2
  go_region
  all_goals go_wp2
  all_goals go_ret
  all_goals refine⟨⟨_,rfl,?_⟩,(ak w _).drew⟩
  all_goals(unfold oX;simp[g])
 obtain rfl|rfl|rfl|rfl:=s;all_goals go_in
 all_goals go_wp2
 all_goals go_ret
 all_goals refine⟨⟨_,rfl,?_⟩,ak w _⟩
 all_goals(unfold oX;simp)
end
open RowKit Maps
abbrev Stepped (b a:Nat):ay->ay->Prop:=eG (λk=>k=b\/k=a)
def TL(b l m h:Nat)(a:gO)(w:ay)(d:aF w b 249 [ι m,ι h,.map (some l)])(f:1<=a.op)(g:a.op<=8)(i:h<Pl.ig a.op):
 Calls prog 132 #[π b,gE a] w λe j=>e=.returned (.bool false)/\μ w j:=by
 have⟨op,p,t,F,G⟩:=a;simp only at f g i;unfold gE;simp only;have q:∀c,(w.alloc c).cell? ⟨b,1,none⟩=some (ι h):=λc=>by have:=(d.alloc c).cell 1 (by simp);simpa using this
 have n:=λw=>IY op f g w;generalize Pl.ig op=k at*;generalize ny op=r at*;have s:(h:Int)<k:=by omega
 go_in;go_wp2_with fail
 refine(n _).mono ?_;rintro e o⟨rfl,rfl⟩;go_wp2_with fail
 all_goals go_ret
 all_goals exact⟨rfl,ak w _⟩
structure yz(b bm n m h:Nat)(i:gO)(A:Aw)(w:ay)(r:Bool)(w':ay):Prop where
 ok:r=true↔Pl.eX i.op h<=16/\(i.op=6->Pl.n_ A (i.next+i.first) (Pl.eX i.op h))
 on:r=true->aF w' b 249 [ι m,ι (Pl.eX i.op h),.map (some bm)]/\∃D',Mw w' bm (n+1) D' /\kE D' (if i.op=6 then Pl.put A (i.next+i.first) (Pl.eX i.op h) else A)
 kept:Stepped b bm w w'
def T5(b d n m h:Nat)(c:gO)(D:DataW Unit)(A:Aw)(w:ay)(g:aF w b 249 [.int .i64 m,.int .i64 h,.map (some d)])(W:1<=c.op)(U:c.op<=8)(hh:h<=16)(aa:Pl.ig c.op<=h)(ad:c.next<=8388608)(hF:c.first<=65535)(x:Mw w d n D)(p:kE D A)(Z:n<=16777216)(I:b≠d):
 Calls prog 132 #[.pointer (some (η b 0)),gE c] w λe V=>∃f:Bool,e=.returned (.bool f)/\yz b d n m h c A w f V:=by
 have N:=λw=>IY c.op W U w;have af:ny c.op<=1:=by unfold ny;split<;>omega
 have L:Pl.eX c.op h=h-Pl.ig c.op+ny c.op:=rfl;have ac:=g.lt;have c1:w.χ b 1=some (.int .i64 h):=by have:=g.cell 1 (by simp);simpa using this
 have f1:=g.frozen 1;have d1:∀v,(w.ψ b 1 v).χ b 1=some v:=λv=>by have:=(g.set 1 v).cell 1 (by simp);simpa using this
 obtain⟨X,E⟩:∃X,X=Obj.cells #[.int .u8 c.op,.int .i64 c.bp,.int .i64 c.next,.int .i64 c.first,.int .i64 c.pN] 254:=⟨_,rfl⟩;have j:aF ((w.ψ b 1 (.int .i64 (Pl.eX c.op h))).alloc X) b 249 [.int .i64 m,.int .i64 (Pl.eX c.op h),.map (some d)]:=(g.set 1 _).alloc X;have l:Stepped b d w ((w.ψ b 1 (.int .i64 (Pl.eX c.op h))).alloc X):=((eG.refl _ w).set (.inl rfl) 1 _).alloc X;have o:Mw ((w.ψ b 1 (.int .i64 (Pl.eX c.op h))).alloc X) d n D:=(x.setCell (a:=η b 1) (λe=>I e.symm) _).alloc X;have ae :¬(h:Int)<(Pl.ig c.op:Int):=by omega
 have C:(h:Int)+((ny c.op:Int)-(Pl.ig c.op:Int))=(Pl.eX c.op h:Int):=by omega
 have O:=aC C;by_cases i:Pl.eX c.op h<=16
 ·have Y:¬(16:Int)<h+((ny c.op:Int)-(Pl.ig c.op:Int)):=by omega
  by_cases r:c.op=6
  ·obtain⟨q,M⟩:∃q,q=c.next+c.first:=⟨_,rfl⟩;have CA:=PT b d n m (Pl.eX c.op h) q D A _ j o p (by omega) i Z I;have T:Hid ((c.next:Int)+c.first=(q:Int)):=by show _=_;omega
   have t:∀f y,(f=true↔Pl.n_ A q (Pl.eX c.op h))->Mw y d (n+1) (D.put (kI q) (.lit (.int .i64 (Pl.eX c.op h))))->((w.ψ b 1 (.int .i64 (Pl.eX c.op h))).alloc X).grownBy y (some d)->yz b d n m h c A w f y:=by
    intro f y B z s;refine⟨?_,λ_=>⟨j.grown s (λe=>I (YW e)),_,z,?_⟩,l.trans ((eG.xc s).mono (λk e=> .inr (YW e)))⟩
    ·rw[B,M];exact⟨λe=>⟨i,λ_=>e⟩,λe=>e.2 r⟩
    rw[Yd r,<-M];exact p.put o.isMap q _
   clear g x p L C j l o M i;have⟨op,H,J,F,G⟩:=c;simp only at r;subst r;unfold gE;simp only at*;generalize Pl.eX 6 h=P at*;generalize Pl.ig 6=Q at*;generalize ny 6=R at*;go_in;go_wp2_with fail
   refine(N _).mono ?_;rintro e S⟨rfl,rfl⟩;go_wp2_with fail
   rw[O.u,T.u,<-show X=Obj.cells #[.int .u8 6,.int .i64 H,.int .i64 J,.int .i64 F,.int .i64 G] 254 from E];refine CA.mono ?_;rintro e w2⟨⟨f,rfl,B⟩,z,s⟩;have K:=t f w2 B z s;clear B z s;go_wp2_with fail
   all_goals go_ret
   all_goals exact⟨_,rfl,K⟩
  have t:yz b d n m h c A w true ((w.ψ b 1 (.int .i64 (Pl.eX c.op h))).alloc X):=
   ⟨by simp[i,r],λ_=>⟨j,D,o.mono (l' _),by rw[Yb r];exact p⟩,l⟩
  clear g x p L C j l o i;have⟨op,H,J,F,G⟩:=c;unfold gE;simp only at*;generalize Pl.eX op h=P at*;generalize Pl.ig op=Q at*;generalize ny op=R at*;have b6:((op:Int) !=6)=true:=by rw[ZI];omega
  go_in;go_wp2_with fail
  refine(N _).mono ?_;rintro e S⟨rfl,rfl⟩;go_wp2_with fail
  all_goals go_ret
  all_goals(rw [O,<-E];exact⟨_,rfl,t⟩)
 have Y:(16:Int)<h+((ny c.op:Int)-(Pl.ig c.op:Int)):=by omega
 have t:yz b d n m h c A w false ((w.ψ b 1 (.int .i64 (Pl.eX c.op h))).alloc X):=⟨by simp[i],λe=>(by cases e),l⟩;clear g x p L C j l o i;have⟨op,H,J,F,G⟩:=c;unfold gE;simp only at*;generalize Pl.eX op h=P at*;generalize Pl.ig op=Q at*;generalize ny op=R at*;go_in;go_wp2_with fail
 refine(N _).mono ?_;rintro e S⟨rfl,rfl⟩;go_wp2_with fail
 all_goals go_ret
 all_goals(rw [O,<-E];exact⟨_,rfl,t⟩)
