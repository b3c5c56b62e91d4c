/- . -/
import Derived.Test.YtjelacjggijmfaaGreatDoorYW5
import Derived.Shelf.SlIter.Nil
set_option maxHeartbeats 10000000
set_option maxRecDepth 1000000
namespace Go.Proofs.YtjelacjggijmfaaGreatDoor
open Pl Mk Cp Proofs.Tryz
open RowKit
structure Rn where
 name:ag
 aT:ag
 iZ:Bool
def tD (W:ax)(b c:Nat)(L:List Rn):Prop:=∀a (h:a<L.length),W.cell? ⟨b,c+a*3,none⟩=some (aK L[a].name)/\W.cell? ⟨b,c+a*3+1,none⟩=some (aK L[a].aT)/\W.cell? ⟨b,c+a*3+2,none⟩=some (.bool L[a].iZ)
def nR (L:List Rn)(n:ag):Nv:=match L.reverse.find? (λx=>x.name==n) with
 |none=>pL
 |some x=>⟨x.aT,!x.iZ⟩
theorem Gs (a:List Rn)(x:Rn)(n:ag):nR (a++[x]) n=if(x.name==n)=true then⟨x.aT,!x.iZ⟩ else nR a n:=by unfold nR;rw[Zi,List.reverse_singleton,Wc,UT];cases h:x.name==n<;>simp
variable {d:Nat}
theorem Qx {L:List Rn}(h:d<L.length)(n:ag):nR (L.take (d+1)) n=if(L[d].name==n)=true then⟨L[d].aT,!L[d].iZ⟩ else nR (L.take d) n:=by rw[TW h,Gs]
theorem tD.aL {w z:ax}{b:Nat}{L:List Rn}{B:Nat}(h:tD w b d L)(c:Below B w z)(a:b<B):tD z b d L:=λe l=>by obtain⟨i,f,j⟩:=h e l;exact⟨(c.cell (p:=⟨b,_,none⟩) a).trans i,(c.cell (p:=⟨b,_,none⟩) a).trans f,(c.cell (p:=⟨b,_,none⟩) a).trans j⟩
def SZ (L:List Rn)(name:ag)(e:Ending):Prop:=(∃a,∃h:a<L.length,e= .returned (.int .i64 (a:Int))/\nR L name=⟨L[a].aT,!L[a].iZ⟩/\L[a].name=name)\/(e= .returned (.int .i64 (-1))/\nR L name=pL)
def dO (c:ag)(a:List ag):Bool:=decide (c∈a)
theorem M5 (L:List Rn)(name:ag)(a:Option Addr)(cap b n:Nat)(w:ax)(o:0<L.length->a=some ⟨b,n,none⟩)(l:tD w b n L)(z:L.length<=1073741824):
 Calls prog 206 #[.slice a L.length cap,.string ⟨name.toArray⟩] w λe r=>r =w/\SZ L name e:=by
 have t:=aB o;have s:=aB l;clear o l;have y:Hid (nR L name=nR (L.take L.length) name):=aB (by rw[Us]);go_enter func206,ntmps206;go_wp2_with fail
 go_loopw [5] (λh wr=>∃c:Nat,h= .int .i64 ((c:Int)-1)/\c<=L.length/\Hid (nR L name=nR (L.take c) name)/\wr=w) (λh _=>match h with| .int _ x=>(x+1).toNat|_=>0)
 case atStart=>exact⟨L.length,by go_num,TD _,y,rfl⟩
 case round=>
  obtain⟨c,rfl,A,f,v⟩:=hrel;subst v;cases c with
  |zero=>
   have p:¬(0:Int)<=(((0:Nat):Int)-1):=by decide
   go_wp2_with fail
   go_ret;refine⟨rfl,.inr ⟨rfl,?_⟩⟩;rw[f.u];rfl
  |succ c=>
   have j:(((c+1:Nat):Int)-1)=(c:Int):=by omega
   rw[j];obtain rfl:=t.u (by omega);obtain⟨q,-,-⟩:=s.u c (by omega);have p:(0:Int)<=(c:Int):=by omega
   have B:(c:Int)<(L.length:Int):=by omega
   have d:=aB (Qx (show c<L.length by omega) name);unfold aK at q;cases i:L[c].name==name with
   |true=>
    rw[i] at d;clear j;go_wp2_with fail
    go_ret;refine⟨rfl,.inl ⟨c,by omega,rfl,?_,by simpa using i⟩⟩;rw[f.u,d.u];exact TP (by first|trivial|rfl)
   |false=>
    rw[i] at d;clear j;go_wp2_with fail
    go_roundw
    case rel=>exact⟨c,by go_num,by omega,aB (by rw[f.u,d.u];rfl),trivial⟩
    case measure=>simp
theorem C_ (d:List ag)(c:ag)(a:Option Addr)(cap b p:Nat)(w:ax)(r:0<d.length->a=some ⟨b,p,none⟩)(s:na w b p d)(E:d.length<=1073741824):
 Calls prog 115 #[.slice a d.length cap,.string ⟨c.toArray⟩] w λe B=>e= .returned (.bool (dO c d))/\B =w:=by
 have C:=aB r;have y:=aB s;clear r s;go_enter func115,ntmps115;go_wp2_with fail
 go_loopw [5] (λo wr=>∃f:Nat,o= .int .i64 f/\f<=d.length/\Hid (c∉d.take f)/\wr=w) (λo _=>d.length-aS o)
 case atStart=>exact⟨0,rfl,TS _,λh=>(by cases h),rfl⟩
 case round=>
  obtain⟨f,rfl,D,t,z⟩:=hrel;subst z;by_cases l:f<d.length
  ·obtain rfl:=C.u (by omega);have v:=y.u f l;have n:d.take (f+1)=d.take f++[d[f]]:=TW l;have x:(f:Int)<(d.length:Int):=by omega
   unfold aK at v;by_cases i:d[f]=c
   ·have A:(d[f]==c)=true:=by simpa using i
    have j:Hid (dO c d=true):=aB (Uz (i▸TV l));clear i n;go_wp2_with fail
    rw[<-j.u];go_ret;exact⟨rfl,rfl⟩
   ·have A:(d[f]==c)=false:=by simpa using i
    have j:Hid (c∉d.take (f+1)):=aB (by
     rw[n];intro q;rcases T4.1 q with q|q
     ·exact t.u q
     ·exact i (TL.1 q).symm)
    clear i n;go_wp2_with fail
    go_roundw
    case rel=>exact⟨f+1,by go_num,by omega,j,trivial⟩
    case measure=>simp only[aS];omega
  ·have x:¬(f:Int)<(d.length:Int):=by omega
   have j:Hid (dO c d=false):=aB (UA (by have:=t.u;rw[Uh (by omega)] at this;exact this));go_wp2_with fail
   go_ret;exact⟨by rw[j.u];rfl,rfl⟩
def jK (B b:Nat)(a:List UInt8)(w:ax):Prop:=Lib.IsBuilderF 158 5 B b (Lib.byteCells a) w
variable {e a f j:List UInt8}{i:ax}
theorem jK.kept {B b:Nat}{w:ax}(h:jK B b e w)(j:∀(k:Nat) (c:Array ay) (l:TypeId) (f:Nat×Nat),w.heap[k]?=some (Obj.cells c l f)->i.heap[k]?=some (Obj.cells c l f)):jK B b e i :=by
 have n:∀a,Lib.BuilderAtF 158 5 B b a (Lib.byteCells e) w->Lib.BuilderAtF 158 5 B b a (Lib.byteCells e) i :=by
  rintro a ⟨r,v,o,⟨q,d⟩,p⟩;refine⟨r,v,j _ _ _ _ o,⟨q,?_⟩,p⟩;rcases d with d|⟨g,cap,cur,fz,hv,hBg,hg,rest⟩
  ·exact .inl d
  ·exact .inr ⟨g,cap,cur,fz,hv,hBg,j _ _ _ _ hg,rest⟩
 rcases h with h|h
 ·exact .inl (n _ h)
 ·exact .inr (n _ h)
theorem jK.aE {B b:Nat}{w:ax}(h:jK B b e w)(c:Below w.heap.size w i):jK B b e i :=jK.kept h (λk _ _ _ a=>(c.block k (TN.1 a).1).trans a)
theorem jK.lZ (w:ax):jK w.heap.size w.heap.size [] (w.alloc (.cells #[.pointer none,.slice none 0 0] 158)):=Lib.IsBuilderF.of (Lib.fresh_isBuilder _ _ w)
theorem yJ (B b:Nat)(c:List UInt8)(s:az)(w:ax)(h:jK B b c w)(d:c.length+s.size<=140737488355328)(l:B<=w.heap.size):
 Calls prog 75 #[.pointer (some ⟨b,0,none⟩),.string s] w λe a=>e= .returned (.tuple #[.int .i64 s.size,.nilIface])/\jK B b (c++s.data.toList) a /\Below B w a /\Lib.OthersKept 5 (some b) w a :=by refine(Any.Builder_WriteString_k Tryz.RD Tryz.tE B b _ s w h (by rw[Va];exact d) l).mono ?_;rintro e a ⟨rfl,i,f,j⟩;exact⟨rfl,by unfold jK;rw[V3];exact .inr i,f,j⟩
theorem QM (B b:Nat)(d:List UInt8)(c:UInt8)(n:Int)(f:n=c.toNat)(w:ax)(h:jK B b d w)(i:d.length+1<=140737488355328)(p:B<=w.heap.size):
 Calls prog 78 #[.pointer (some ⟨b,0,none⟩),.int .u8 n] w λe a=>e= .returned .nilIface/\jK B b (d++[c]) a /\Below B w a /\Lib.OthersKept 5 (some b) w a :=by subst f;refine(Any.Builder_WriteByte_k Tryz.Rj Tryz.tE B b _ c.toNat w h (by rw[Va];exact i) p).mono ?_;rintro e a ⟨rfl,l,j,o⟩;exact⟨rfl,by unfold jK;rw[V3];exact .inr l,j,o⟩
theorem Gg (B b:Nat)(c:List UInt8)(w:ax)(h:jK B b c w)(j:B<=w.heap.size):
 Calls prog 79 #[.pointer (some ⟨b,0,none⟩)] w λe a=>e= .returned (.string ⟨c.toArray⟩)/\jK B b c a /\Below B w a /\Lib.OthersKept 5 (some b) w a :=by refine(Any.Builder_String_any_k Tryz.Rs Tryz.tE B b c w h j).mono ?_;rintro e a ⟨rfl,f,d,i⟩;exact⟨rfl,f,d,i⟩
theorem BO (h:dR e=true):e.dropLast.length+1=e.length:=by
 cases e with
 |nil=>simp[dR] at h
 |cons a b=>simp
def sK (cd:List UInt8)(a:Nat)(b:List UInt8)(c:Bool):ay:= .tuple #[.string ⟨cd.toArray⟩,.int .i64 a,.string ⟨b.toArray⟩,.bool c]
theorem Ng (a:List UInt8):(gg a).length<=a.length:=zC _ a
def xt:ay->Nat
 | .bool b=>if b then 1 else 0
 |_=>0
structure qW (t:List UInt8)(aC p rest:List UInt8)(gh:Bool)(used:Nat):Prop where
 eq:fw [] 1 (Mk.bj 10 t) (Mk.rs (bQ 10 t) (Mk.has 10 t))=fw aC used p (Mk.rs rest gh)
 len:aC.length+p.length+rest.length+(if gh then 1 else 0)<=t.length
 used:used+rest.length+(if gh then 1 else 0)<=1+t.length
theorem qW.start (a:List UInt8):qW a [] (Mk.bj 10 a) (bQ 10 a) (Mk.has 10 a) 1:=⟨rfl,by have:=vD 10 a;simp only[T1];omega,by have:=vD 10 a;omega⟩
theorem qW.on (h:qW j f a e true d)(b:dR a=true):
 qW j (f++a.dropLast++[32]) (fE (Mk.bj 10 e)) (bQ 10 e) (Mk.has 10 e) (d+1):=by
 have i:=h.len;have c:=h.used;have o:=vD 10 e;have n:=uH (Mk.bj 10 e);have l:=BO b;refine⟨h.eq.trans (N6 f d a e b),?_,?_⟩
 ·simp only[TE,TK,T1,Vn] at*;omega
 ·simp only[Vn] at*;omega
theorem J5 (b:List UInt8)(w:ax)(hT:b.length<=1073741824)(U:c_ w):
 Calls prog 157 #[.string ⟨b.toArray⟩] w λe w'=>∃cd D z A,e= .returned (sK cd D z A)/\
  fw [] 1 (Mk.bj 10 b) (Mk.rs (bQ 10 b) (Mk.has 10 b))=(cd,D,Mk.rs z A)/\
  cd.length+z.length+(if A then 1 else 0)<=b.length/\D+z.length+(if A then 1 else 0)<=1+b.length/\Below w.heap.size w w' :=by
 have ah:(⟨b.toArray⟩:az).size=b.length:=eh b;have HI:=aB (qW.start b);go_enter func157,ntmps157;go_wp2_with fail
 refine(tF 10 ⟨b.toArray⟩ _ (by omega) U).mono ?_;rintro e f ⟨rfl,H⟩;have F:=U.aE H;simp only;go_wp2_with fail
 go_loopw [6,7,8,9] (λE J m u wr=>∃(c a rl:List UInt8) (B:Bool) (ul:Nat),E= .string ⟨a.toArray⟩/\J= .string ⟨rl.toArray⟩/\m= .bool B/\u= .int .i64 ul/\
  Hid (qW b c a rl B ul)/\jK f.heap.size f.heap.size c wr/\Below f.heap.size f wr/\c_ wr) (λ_ J m _ _=>ox J+xt m)
 case atStart=>exact⟨[],_,_,_,1,rfl,rfl,rfl,rfl,HI,jK.lZ f,aj f _,F.aE (aj f _)⟩
 case round=>
  obtain⟨c,a,rl,B,ul,rfl,rfl,rfl,rfl,i,C,p,ak⟩:=hrel;have O:=p.size;have V:=i.u.len;have I:=aB i.u.used;have ai:(⟨a.toArray⟩:az).size=a.length:=eh a;have ab:(⟨rl.toArray⟩:az).size=rl.length:=eh rl;cases B with
  |false=>
   simp only[Uj,Vk] at V;go_wp2_with fail
   refine(LJ ⟨a.toArray⟩ _ (by omega)).mono ?_;rintro e x ⟨rfl,N⟩;simp only;have Y:=C.aE N;have T:=p.trans (N.mono O);have aq:=Ng a;have al:(⟨(gg a).toArray⟩:az).size=(gg a).length:=eh _;have M:=aB (i.u.eq.trans (Lw c ul a rl));clear N C p i;generalize gg a=q at*;go_wp2_with fail
   refine(yJ _ _ c ⟨q.toArray⟩ x Y (by omega) T.size).mono ?_;rintro e o ⟨rfl,h,l,-⟩;simp only at h;have d:=T.trans l;go_wp2_with fail
   refine(Gg _ _ _ o h d.size).mono ?_;rintro e K ⟨rfl,-,n,-⟩;have j:=d.trans n;go_wp2_with fail
   refine Ua (v:=sK (c++q) ul rl false) (by simp[results,results157,go_sem,sK]) rfl ⟨c++q,ul,rl,false,rfl,M.u,?_,?_,?_⟩
   ·simp only[TE,Uj,Vk];omega
   ·exact I.u
   ·exact H.tr j
  |true=>
   simp only[Vn] at V;cases r:dR a with
   |false=>
    have M:=aB (i.u.eq.trans (Np c ul a rl r));go_wp2_with fail
    refine(Cm ⟨a.toArray⟩ _ (by omega)).mono ?_;rintro e x ⟨rfl,rfl⟩;simp only;rw[r];clear i;go_wp2_with fail
    refine(yJ _ _ c ⟨a.toArray⟩ wr C (by omega) O).mono ?_;rintro e o ⟨rfl,h,l,-⟩;simp only at h;have d:=p.trans l;go_wp2_with fail
    refine(Gg _ _ _ o h d.size).mono ?_;rintro e K ⟨rfl,-,n,-⟩;have j:=d.trans n;go_wp2_with fail
    refine Ua (v:=sK (c++a) ul rl true) (by simp[results,results157,go_sem,sK]) rfl ⟨c++a,ul,rl,true,rfl,M.u,?_,?_,?_⟩
    ·simp only[TE,Vn];omega
    ·exact I.u
    ·exact H.tr j
   |true=>
    have Z:=aB (i.u.on r);have an:=BO r;have am:(⟨a.dropLast.toArray⟩:az).size=a.dropLast.length:=eh _;have ap:ul+rl.length+1<=1+b.length:=I.u;have ao:=vD 10 rl;go_wp2_with fail
    refine(Cm ⟨a.toArray⟩ _ (by omega)).mono ?_;rintro e x ⟨rfl,rfl⟩;simp only;rw[r];go_wp2_with fail
    refine(Ku ⟨a.toArray⟩ _ (by omega) r).mono ?_;rintro e x ⟨rfl,rfl⟩;simp only;clear i;generalize a.dropLast=q at*;go_wp2_with fail
    refine(yJ _ _ c ⟨q.toArray⟩ wr C (by omega) O).mono ?_;rintro e o ⟨rfl,h,l,-⟩;simp only at h;have d:=p.trans l;have ae:c_ o:=by obtain⟨m,s⟩:=F;exact⟨m,(d.cell (p:=⟨0,0,none⟩) (U5 f _ s)).trans s⟩
    clear l;go_wp2_with fail
    refine(QM _ _ (c++q) 32 32 rfl o h (by simp only[TE];omega) d.size).mono ?_;rintro e K ⟨rfl,S,n,-⟩;have j:=d.trans n;have G:c_ K:=by obtain⟨m,s⟩:=F;exact⟨m,(j.cell (p:=⟨0,0,none⟩) (U5 f _ s)).trans s⟩
    clear n h ae;go_wp2_with fail
    refine(tF 10 ⟨rl.toArray⟩ _ (by omega) G).mono ?_;rintro e w5 ⟨rfl,t⟩;simp only;have R:=S.aE t;have P:=j.tr t;have Q:=G.aE t;clear t S G j d p;go_wp2_with fail
    refine(BV _ _).mono ?_;rintro e w6 ⟨rfl,y⟩;simp only;have ac:=R.aE y;have aa:=P.tr y;have af:=Q.aE y;clear y R Q P;generalize fE (Mk.bj 10 rl)=p' at*;have ad:(⟨(bQ 10 rl).toArray⟩:az).size=(bQ 10 rl).length:=eh _;generalize bQ 10 rl=r' at*;generalize Mk.has 10 rl=m' at*;go_wp2_with fail
    refine⟨⟨c++q++[32],p',r',m',ul+1,rfl,rfl,rfl,by go_num,Z,ac,aa,af⟩,?_⟩;simp only[ox,xt,Vn];rw[ad,ab];omega
open Shelf
variable {b:List (Nat×List UInt8)}
section
attribute [local go_sem] W9
def AM (x:Nat×List UInt8):Array ay:= #[.int .i64 x.1,.string ⟨x.2.toArray⟩]
def Tf (W W' :ax):Prop:=c_ W->c_ W'
theorem Dx:∀(b:List (List UInt8)) (d:List UInt8) (a:Nat) (c:List UInt8),(fw d a c b).2.2.length<=b.length
 |[],_,_,_=>TD _
 |q::e,d,a,c=>by
  unfold fw;split
  ·exact TT (Dx e _ _ _) (by simp)
  ·exact TD _
structure oZ (t:List UInt8)(bk:List (Nat×List UInt8))(f n:Nat)(rl:List UInt8)(m:Bool):Prop where
 eq:di t=bk++kP f n (Mk.rs rl m)
 Tv:(Mk.rs rl m).length<=f
 aZ:n+rl.length+(if m then 1 else 0)<=t.length+2
 len:rl.length<=t.length
theorem oZ.start (a:List UInt8):oZ a [] (iF a).length 1 a true:=⟨rfl,TD _,by simp only[Vn];omega,TD _⟩
theorem oZ.round {f n:Nat}{rl:List UInt8}(h:oZ e b f n rl true){cd:List UInt8}{i:Bool}(o:fw [] 1 (Mk.bj 10 rl) (Mk.rs (bQ 10 rl) (Mk.has 10 rl))=(cd,d,Mk.rs a i))(t:cd.length+a.length+(if i then 1 else 0)<=rl.length)(r:d+a.length+(if i then 1 else 0)<=1+rl.length):
 ∃g post,di e=b++(n,cd)::post/\oZ e (b++[(n,cd)]) g (n+d) a i:=by obtain⟨c,j,q,s⟩:=h;simp only[Vn] at q;have p:Mk.rs rl true=Mk.bj 10 rl::Mk.rs (bQ 10 rl) (Mk.has 10 rl):=xd rl;rw[p] at c j;rw[TK] at j;obtain⟨g,rfl⟩:∃g,f=g+1:=⟨f-1,by omega⟩;rw[kP,o] at c;have l:=Dx (Mk.rs (bQ 10 rl) (Mk.has 10 rl)) [] 1 (Mk.bj 10 rl);rw[o] at l;simp only at c l;exact⟨g,_,c,by rw[c];simp,by omega,by omega,by omega⟩
theorem oZ.done {f n:Nat}{rl:List UInt8}(h:oZ e b f n rl false):di e=b:=by have:=h.eq;rw[this];cases f<;>simp[Mk.rs,kP]
theorem Ko (b:List UInt8)(i:Nat)(w:ax)(hT:b.length<=1073741824)(V:c_ w)(s:w.cell? ⟨i,0,none⟩=some (.string ⟨b.toArray⟩)):
 xQ prog 156 #[.pointer (some ⟨i,0,none⟩)] AM (λ_=>Tf) (di b) w:=by
 intro ai Q B W _ G C ad R N;have ae:W.cell? ⟨i,0,none⟩=some (.string ⟨b.toArray⟩):=(G.cell (p:=⟨i,0,none⟩) (U5 w _ s)).trans s;have Z:=V.aE G;refine callsIn_of_wp func156 rfl trivial ?_;simp only[ntmps156,VH,TK,T1,Nat.reduceAdd,Nat.reduceSub,Zb,Zc,ZU,Zm,UI,UE];gi_wp2
 gi_region
 gi_wp2
 gi_loopw [3,4,5] (λU c d wr=>∃(a:List (Nat×List UInt8)) (f n:Nat) (rl:List UInt8) (m:Bool),U= .int .i64 n/\c= .string ⟨rl.toArray⟩/\d= .bool m/\
  Hid (oZ b a f n rl m)/\Hid (Q a wr)/\c_ wr) (λ_ c d _=>ox c+xt d)
 case atStart=>exact⟨[],_,1,b,true,rfl,rfl,rfl,oZ.start b,Qy C N,Z.aE (TF _ _).drew⟩
 case round=>
  obtain⟨a,f,n,rl,m,rfl,rfl,rfl,h,o,E⟩:=hrel;cases m with
  |false=>
   have I:=aB h.u.done;gi_wp2
   go_end0
   exact⟨⟨_,rfl⟩,.inl (by rw[I.u];exact o.u)⟩
  |true=>
   have af:=h.u.len;have M:=h.u.aZ;simp only[Vn] at M;gi_wp2_with fail
   refine⟨trivial,(Wq.2 (J5 rl _ (by omega) E)).mono ?_⟩;rintro e J ⟨cd,t,c,d,rfl,F,l,v,q⟩;obtain⟨g,post,r,y⟩:=h.u.round F l v;have H:=wN C o.u q;obtain⟨fn,aj,assign,ah,j,x⟩:=R a (n,cd) post J r H;have P:=aB y;have D:=aB x;have T:=E.aE q;have K:Hid (∀W',B (a++[(n,cd)]) W' ->∃a post,di b=a++post/\B a W'):=λW' hx=>⟨_,post,by rw[r];simp,hx⟩;have HL:=aB l;clear y x r F q H o h l;unfold sK;unfold AM at j;simp only at j;gi_wp2_with fail
   refine(Cc D.u).mono ?_;rintro e W3 (⟨rfl,A,z⟩|⟨rfl,aa,-⟩)
   ·have ab:=aB A;have S:=z T;have ac:t<=1+rl.length:=by omega
    clear A z v D j;gi_wp2_with fail
    go_roundw
    case rel=>exact⟨a++[(n,cd)],g,n+t,c,d,by go_num,rfl,rfl,P,ab,S⟩
    case measure=>have O:(⟨c.toArray⟩:az).size=c.length:=eh _;have Y:(⟨rl.toArray⟩:az).size=rl.length:=eh _;have h3:=HL.u;simp only[ox,xt,Vn,O,Y];omega
   ·gi_wp2_with fail
    refine Ua (U' rfl _ _ _) rfl ?_;exact⟨⟨_,rfl⟩,.inr (K.u _ aa)⟩
end
variable {c l:Obj}
section
attribute [local go_sem] W9
theorem LX (s:az)(w:ax):
 Calls prog 120 #[.string s] w λe a=>e= .returned (.func (.func 156) #[] #[.pointer (some ⟨w.heap.size,0,none⟩)])/\w.alloc (.cells #[.string s] 9)=a :=by
 go_enter func120,ntmps120;go_wp2
 go_ret;exact⟨rfl,rfl⟩
theorem Qj (s:az)(w:ax):
 Calls prog 74 #[.string s] w λe a=>e= .returned (.func (.func 119) #[] #[.pointer (some ⟨w.heap.size,0,none⟩)])/\w.alloc (.cells #[.string s] 9)=a :=by
 go_enter func74,ntmps74;go_wp2
 go_ret;exact⟨rfl,rfl⟩
def xC (x:Ln×Nat):Array ay:= #[dx x.1,.int .i64 x.2]
structure jY (l:Nat)(W W' :ax):Prop where
 fh:c_ W->c_ W'
 AG:∀(k:Nat) (c:Array ay) (f:Nat×Nat),W.heap[k]?=some (Obj.cells c 234 f)->W'.heap[k]?=some (Obj.cells c 234 f)
 sY:∀(k:Nat) (o:Obj),l<k->W.heap[k]?=some o->o.isCells=false->W'.heap[k]?=some o
 size:W.heap.size<=W'.heap.size
theorem B2 {W:ax}(h:c_ W)(a:W.heap[d]?=some c)(b:c.isCells=false):c_ (W.putObj d l):=by obtain⟨m,f⟩:=h;exact⟨m,cell_kept f (aaN W d l) (λi e=>by cases e;exact⟨c,a,b⟩)⟩
theorem NS (B:Nat){β:Type}:OwnFrom B (λ(_:β) W=>c_ W):=λ_ X Y row c b a=>by obtain⟨m,d⟩:=c;exact⟨m,cell_kept d b (λf e=>(a f e).2)⟩
theorem Ec {α:Type}{L a post:List α}{x:α}(h:L=a++x::post):L.drop a.length=x::post/\L.drop (a++[x]).length=post:=by subst h;refine⟨YG,?_⟩;rw[show a++x::post=(a++[x])++post from by simp];exact YG
theorem QY (B k:Nat)(c:Array ay)(i:TypeId){β:Type}:OwnFrom B (λ(_:β) W=>W.heap[k]?=some (Obj.cells c i (0,0))):=λ_ X Y row a f d=>by refine(f.block k (TN.1 a).1 (λe=> ?_)).trans a;obtain⟨_,j,b,h⟩:=d k e.symm;rw[a] at b;cases b;cases h
theorem NW (a:List UInt8)(G:Nat)(w:ax)(hT:a.length<=1073741824)(hg:c_ w)(aq:w.cell? ⟨G,0,none⟩=some (.string ⟨a.toArray⟩)):
 xQ prog 119 #[.pointer (some ⟨G,0,none⟩)] xC jY (ed (di a)) w:=by
 intro O T Jx W aT hW U av hY h0;have aC:W.cell? ⟨G,0,none⟩=some (.string ⟨a.toArray⟩):=(hW.cell (p:=⟨G,0,none⟩) (U5 w _ aq)).trans aq;have aN:=hg.aE hW;have aO:=U5 W _ aC;refine callsIn_of_wp_marks func119 rfl trivial ?_;simp only[ntmps119,VH,TK,T1,Nat.reduceAdd,Nat.reduceSub,Zb,Zc,ZU,Zm,UI,UE];have aL:∀i,(W.alloc i).cell? ⟨G,0,none⟩=some (.string ⟨a.toArray⟩):=λi=>((aj W i).cell (p:=⟨G,0,none⟩) aO).trans aC;gi_wp2_with fail
 refine⟨trivial,(Wq.2 (LX _ _)).mono ?_⟩;rintro e w2 ⟨rfl,rfl⟩;gi_wp2_with fail
 clear aL;obtain⟨V,Q⟩:∃V,V=((W.alloc (.cells #[.func (.yield O) #[] #[]] 234)).alloc (.cells #[.string ⟨a.toArray⟩] 9)):=⟨_,rfl⟩;rw[<-Q];have aS:V.heap.size=W.heap.size+2:=by rw[Q];simp
 have aG:Below W.heap.size W V:=by rw[Q];exact(aj W _).alloc (by simp) _
 have ar:=aN.aE aG;have aP:V.heap[W.heap.size]?=some (Obj.cells #[.func (.yield O) #[] #[]] 234 (0,0)):=by rw[Q];exact(VU _ _ _ (by simp)).trans (WK W _)
 have aI:V.cell? ⟨W.heap.size+1,0,none⟩=some (.string ⟨a.toArray⟩):=by have:=WK (W.alloc (.cells #[.func (.yield O) #[] #[]] 234)) (.cells #[.string ⟨a.toArray⟩] 9);rw[TM,<-Q] at this;simp[World.cell?,this]
 have aQ:=wN U h0 aG;clear Q;have aw:=DG U (show W.heap.size<=V.heap.size by omega);have aH:=DG av (show W.heap.size<=V.heap.size by omega);refine Nn (gf:=156) (lb:= #[.pointer (some ⟨W.heap.size+1,0,none⟩)]) rfl (Yi func156 (by kernel_rfl) rfl)
  (Ko a (W.heap.size+1) V hT ar aI) (λh k g=>k (h g)) (λd l1 i o' _ hl t E=>B2 E hl t) (TF _ _) (λ_=>rfl)
  (λbk d=>∃b,ed (di a)=b++ed ((di a).drop bk.length)/\T b d/\d.heap[W.heap.size]?=some (Obj.cells #[.func (.yield O) #[] #[]] 234 (0,0))/\c_ d)
  (λc _ d=>c= .ret/\(T (ed (di a)) d\/∃ab an,ed (di a)=ab ++an /\Jx ab d))
  (λs X Y row hs aa S=>by obtain⟨b,r,J,h3,h4⟩:=hs;exact⟨b,r,aw _ X Y row J aa S,QY V.heap.size _ _ _ () X Y row h3 aa S,NS V.heap.size () X Y row h4 aa S⟩)
  (λc s X Y row hs aa S=>by
   obtain⟨r,J|⟨p1,p2,J,h3⟩⟩:=hs
   ·exact⟨r,.inl (aw _ X Y row J aa S)⟩
   ·exact⟨r,.inr ⟨p1,p2,J,aH _ X Y row h3 aa S⟩⟩)
  ⟨[],rfl,aQ,aP,ar⟩
  (λx a' _=>a' ={tmps:= #[.func (.yield O) #[] #[],.pointer (some ⟨G,0,none⟩),.pointer (some ⟨W.heap.size,0,none⟩),.int .i64 x.1,.string ⟨x.2.toArray⟩,undef,undef,.string ⟨a.toArray⟩,
   .func (.func 156) #[] #[.pointer (some ⟨W.heap.size+1,0,none⟩)],.int .i64 x.1,.string ⟨x.2.toArray⟩,undef,undef,undef,undef,undef,undef,undef,undef,undef,undef,undef,undef,undef,undef,undef,undef,undef,undef,undef,undef,undef,undef,undef],defers:=[]})
  (λ_ _ _ _ _ _ hs _ _=>hs) ?assign ?body ?done ?stop
 case assign=>
  rintro l1 bk ⟨n,cd⟩ post d K _ hi A;unfold AM;gi_wp2
  exact A _ _ (KeepsFrom.refl _ _) (λh=>h) hi rfl
 case body=>
  rintro l1 bk ⟨n,cd⟩ post a' d hL ⟨b,Z,z,P,E⟩ rfl;have aV:cd.length<=1073741824:=TT (t_ (x:=(n,cd)) (by rw[hL];simp)) hT;obtain⟨aD,au⟩:=Ec hL;rw[aD] at Z;have aU:(⟨cd.toArray⟩:az).size=cd.length:=eh _;have HN:=aB au;clear aD au hL;gi_wp2_with fail
  refine⟨trivial,(X5 l1 (Wq.2 (Mo ⟨cd.toArray⟩ d (by omega) E))).mono ?_⟩;rintro e q ⟨rfl,I⟩;simp only;have H:ed (di a)=b++(if (br cd).2==0&&(br cd).1.cC==0 then ed post
   else({(br cd).1 with d':=n},(br cd).2)::(if (br cd).2==0 then ed post else [])):=Z
  clear Z;generalize br cd=aR at*;obtain⟨⟨nm,k,L,o⟩,er⟩:=aR;simp only at H;unfold jN dx;simp only;have ai:=I.size;obtain⟨W3,am⟩:∃W3,W3=q.alloc (.cells #[.int .i64 n,.int .i64 k,.string ⟨L.toArray⟩,.string ⟨o.toArray⟩] 164):=⟨_,rfl⟩;have y:Below d.heap.size d W3:=by rw[am];exact I.alloc ai _
  have ak:KeepsFrom V.heap.size d W3:=vS _ y;have ae:=E.aE y;have ad:=wN U z y;have al:W3.heap[W.heap.size]?=_:=(y.block _ (TN.1 P).1).trans P;have ap:q.heap[W.heap.size]?=_:=(I.block _ (TN.1 P).1).trans P;have aA:W.heap.size<q.heap.size:=(TN.1 ap).1;have aW:∀i,(q.alloc i).cell? ⟨W.heap.size,0,none⟩=some (.func (.yield O) #[] #[]):=λi=>by have h5:(q.alloc i).heap[W.heap.size]?=_:=(VU q i _ aA).trans ap;simp[World.cell?,h5]
  by_cases af:er=0
  ·by_cases ao:k=0
   ·subst af ao;have aK:Hid (∃b,ed (di a)=b++ed ((di a).drop (bk++[(n,cd)]).length)/\T b (q.alloc (.cells #[.int .i64 nm,.int .i64 0,.string ⟨L.toArray⟩,.string ⟨o.toArray⟩] 164))/\
     (q.alloc (.cells #[.int .i64 nm,.int .i64 0,.string ⟨L.toArray⟩,.string ⟨o.toArray⟩] 164)).heap[W.heap.size]?=some (Obj.cells #[.func (.yield O) #[] #[]] 234 (0,0))/\c_ (q.alloc (.cells #[.int .i64 nm,.int .i64 0,.string ⟨L.toArray⟩,.string ⟨o.toArray⟩] 164))):=by
     refine⟨b,?_,wN U z (I.alloc ai _),(VU q _ _ aA).trans ap,E.aE (I.alloc ai _)⟩;rw[HN.u,H];rfl
    clear H ad ae am z;gi_wp2_with fail
    exact⟨vS _ (I.alloc ai _),λh=>h.aE (I.alloc ai _),aK.u⟩
   ·have b1:((er:Int)==0)=true:=by rw[UR];omega
    have aM :((er:Int) !=0)=false:=by rw[Uv];omega
    have b2:((k:Int)==0)=false:=by rw[TQ];omega
    have F:ed (di a)=b++(⟨n,k,L,o⟩,er)::ed post:=by
     have c1:(er==0)=true:=by rw[UR];exact af
     have c2:(k==0)=false:=by rw[TQ];exact ao
     rw[H,c1,c2];rfl
    subst am;obtain⟨fn,tmps,assign,body,v,hR⟩:=hY b (⟨n,k,L,o⟩,er) _ _ F ad;have M:=aB hR;have ah:=aB F;have R:=aB ae;have aF:=aB al;have ac:=aB ak;have aJ:=aB y;unfold xC dx at v;simp only at v;clear H ad z hR F af ae al ak y ao;gi_wp2_with fail
    refine(Du M.u).mono ?_;rintro e W4 (⟨rfl,l,j⟩|⟨rfl,l,j⟩)
    ·have B:=aB l;have f:=aB j;clear l j v M;gi_wp2_with fail
     exact⟨ac.u.trans ⟨f.u.size,λN i r t C=>f.u.sY N i (by omega) t C⟩,λ_=>f.u.fh R.u,b++[(⟨n,k,L,o⟩,er)],by rw[HN.u,ah.u];simp,B.u,f.u.AG _ _ _ aF.u,f.u.fh R.u⟩
    ·have B:=aB l;have f:=aB j;clear l j v M;gi_wp2_with fail
     exact⟨ac.u.trans ⟨f.u.size,λN i r t C=>f.u.sY N i (by omega) t C⟩,λ_=>f.u.fh R.u,rfl,.inr ⟨b++[(⟨n,k,L,o⟩,er)],_,by rw[ah.u];simp;rfl,B.u⟩⟩
  ·have b1:((er:Int)==0)=false:=by rw[TQ];omega
   have aM :((er:Int) !=0)=true:=by rw[UY];omega
   have F:ed (di a)=b++(⟨n,k,L,o⟩,er)::[]:=by
    have c1:(er==0)=false:=by rw[TQ];exact af
    rw[H,c1];rfl
   subst am;obtain⟨fn,tmps,assign,body,v,hR⟩:=hY b (⟨n,k,L,o⟩,er) _ _ F ad;have M:=aB hR;have ah:=aB F;have R:=aB ae;have aF:=aB al;have ac:=aB ak;have aJ:=aB y;unfold xC dx at v;simp only at v;clear H ad z hR F af ae al ak y;gi_wp2_with fail
   refine(Du M.u).mono ?_;rintro e W4 (⟨rfl,l,j⟩|⟨rfl,l,j⟩)
   ·have B:=aB l;have f:=aB j;clear l j v M;gi_wp2_with fail
    exact⟨ac.u.trans ⟨f.u.size,λN i r t C=>f.u.sY N i (by omega) t C⟩,λ_=>f.u.fh R.u,rfl,.inl (by rw[ah.u];exact B.u)⟩
   ·have B:=aB l;have f:=aB j;clear l j v M;gi_wp2_with fail
    exact⟨ac.u.trans ⟨f.u.size,λN i r t C=>f.u.sY N i (by omega) t C⟩,λ_=>f.u.fh R.u,rfl,.inr ⟨b++[(⟨n,k,L,o⟩,er)],_,by rw[ah.u];simp;rfl,B.u⟩⟩
 case done=>
  rintro D d hD ⟨b,Z,z,P,E⟩ A;have HY:Hid (T (ed (di a)) (d.putObj D (.deferred none))):=by
   have h9:ed (di a)=b:=by rw[Z];simp[ed]
   show T _ _;rw[h9];exact U.putObj _ z (by omega) A rfl
  clear Z z P E;gi_wp2
  refine⟨by simp,.inl ⟨_,_,rfl,Y0 A,?_⟩⟩;exact⟨_,U' rfl _ _ _,⟨_,rfl⟩,.inl HY.u⟩
 case stop=>
  rintro D c bk post d hD hL ⟨rfl,hx⟩ A;have HY:Hid (T (ed (di a)) (d.putObj D (.deferred none))\/∃ab an,ed (di a)=ab ++an /\Jx ab (d.putObj D (.deferred none))):=by
   rcases hx with hx|⟨p1,p2,r,J⟩
   ·exact .inl (U.putObj _ hx (by omega) A rfl)
   ·exact .inr ⟨p1,p2,r,av.putObj _ J (by omega) A rfl⟩
  clear hx hL;gi_wp2
  refine⟨by simp,.inl ⟨_,_,rfl,Y0 A,?_⟩⟩;exact⟨_,U' rfl _ _ _,⟨_,rfl⟩,HY.u⟩
end
def IC (w:ax)(b:Nat)(a:TypeId)(v:ay):Prop:=w.heap[b]?=some (.cells #[v] a (0,0))
theorem jY.trans {X Y Z:ax}(h:jY d X Y)(k:jY d Y Z):jY d X Z:=⟨λg=>k.fh (h.fh g),λa c f b=>k.AG a c f (h.AG a c f b),λa j e b i=>k.sY a j e (h.sY a j e b i) i,TT h.size k.size⟩
theorem jY.putObj (W:ax)(b:Nat)(i l :Obj)(d:W.heap[b]?=some i)(h:i.isCells=false):jY b W (W.putObj b l):=
 ⟨λg=>B2 g d h,λk c f a=>(Vb (λe=>by subst e;rw[d] at a;cases a;cases h)).trans a,
  λk _ j a _=>(Vb (Nat.ne_of_gt j)).trans a,by simp⟩
theorem jY.aL {W W' :ax}(b:Below W.heap.size W W'):jY d W W' :=⟨λg=>g.aE b,λk _ _ a=>(b.block k (TN.1 a).1).trans a,λk _ _ a _=>(b.block k (TN.1 a).1).trans a,b.size⟩
theorem jY.setCell {W:ax}{b:Nat}{i:TypeId}{v:ay}(h:IC W b i v)(n:i≠234)(j:0<b)(u:ay):jY d W (W.setCell ⟨b,0,none⟩ u):=by
 unfold IC at h;refine⟨λg=> ?_,λk c f a=>(T5 W ⟨b,0,none⟩ u k (λe=> ?_)).trans a,λk q _ a l=>(T5 W ⟨b,0,none⟩ u k (λe=> ?_)).trans a,by simp[World.setCell]⟩
 ·obtain⟨m,o⟩:=g;exact⟨m,(((TF b W).setCell (p:=⟨b,0,none⟩) ak u).cell (p:=⟨0,0,none⟩) j).trans o⟩
 ·simp only at e;subst e;rw[a] at h;cases h;exact n rfl
 ·simp only at e;subst e;rw[a] at h;cases h;cases l
theorem uA (c:UInt8):∀u∈[jr c],u.oneCell' =true:=by intro u a;simp at a;subst a;rfl
theorem vI {a b:UInt8}(h:¬a=b):((a.toNat:Int)==(b.toNat:Int))=false:=by rw[TQ];intro c;apply h;rw[<-V6];exact Xi c
def wR:ay->Nat
 | .slice _ n _=>n
 |_=>0
structure R8 (s:az)(w wr:ax)(k first n:Nat)(bs:ag)(start on:Bool)(outs:List (Nat×ag))(out sv:ay):Prop where
 Tw:k<=s.size+1
 TC:n<=k+1
 Tz:first<=n
 Tx:bs.length<=k
 Ty:outs.length<=k
 row:iM wr w.heap.size out outs
 bytes:dC wr w.heap.size sv bs
 aL:Below w.heap.size w wr
 eD:fI s.data.toList k first n bs start on outs
theorem J6 (ac:xu)(s:az)(w:ax)(hs:s.size<=4294967000):
 Calls prog 104 #[.string s] w λe Y=>∃v,e= .returned v/\iM Y w.heap.size v (di s.data.toList)/\Below w.heap.size w Y :=by
 obtain⟨i0,hi,ap,ar,aw⟩:=UF Tryz.F_;obtain⟨V,T,ab,aa,U⟩:=UF Tryz.Mm;have HL:=aB (Uf s);go_enter func104,ntmps104;go_wp2
 go_loopw [3,4,5,6,7,8,9] (λout G fi nn st on aK wr=>∃(k first n:Nat) (a:ag) (start aS :Bool) (A:List (Nat×ag)),aK= .int .i64 k/\fi= .int .i64 first/\nn= .int .i64 n/\st= .bool start/\on= .bool aS /\
  R8 s w wr k first n a start aS A out G)
  (λ_ _ _ _ _ _ aK _=>s.size+1-(intOf aK).toNat)
 case atStart=>exact⟨0,1,1,[],true,false,[],rfl,rfl,rfl,rfl,rfl,⟨TS _,TD _,TD _,TD _,TD _,iM.nil _ _,dC.nil _ _,TF _ _,fI.start _⟩⟩
 case round=>
  obtain⟨k,first,n,a,start,on,A,rfl,rfl,rfl,rfl,rfl,hS⟩:=hrel;obtain⟨hk,hn,hf,aD,a0,D,B,C,aT⟩:=hS;have ah:=aB aT;clear aT;have Z:=C.size;by_cases J:k<s.size
  ·have am:Hid (k<s.data.toList.length):=by have:=HL.u;show k<_;omega
   have a1:((k:Int)==(s.size:Int))=false:=by rw[TQ];omega
   by_cases an:(s[k]'J)=10
   ·have HC:Hid ((s.data.toList[k]' am.u==10)=true):=by show(s[k]'J==10)=true;simpa using an
    have aV:(((s[k]'J).toNat:Int)==10)=true:=by rw[an];rfl
    clear an;obtain⟨ao,cap,rfl,ak,R⟩:=B.iN;have aj:=B.conv;cases y:(dR a&& !(on&&start)) with
    |false=>
     have z:=aB (ah.u.bW am.u HC.u y);have aJ:a.length<=4294967100:=by omega
     by_cases h0:a.length=0
     ·clear y B R;rw[h0] at aj ak⊢;go_wp2_with fail
      refine(ac first ⟨(a).toArray⟩ wr (by rw[eh];omega)).mono ?_;rintro e o ⟨v,rfl,p,i⟩;obtain⟨L,j,rfl,q⟩:=p.row;clear p;obtain⟨cs,t,r⟩:=D;have l:=oc r i;have h :=C.trans (i.mono Z);have ad:=h.size;go_wp2_with (at_builtin;refine Uo _ rfl (.tmp 104) (.tmp 109) 215 rfl w.heap.size 218 V (.agg #[.int .i64 0,.int .u8 0,.string ⟨#[]⟩,.string ⟨#[]⟩]) 4 48 VP T ab aa U rfl (by decide) _ _ _ rfl (T_ l _) ⟨o.heap.size,0,none⟩ 1 1 [.int .i64 first,.int .u8 (rk (br (a))),.string L,.string j] rfl rfl (oi o _ _ _ _ _) (oh _ _ _ _ _ _) (by unfold maxLen;omega) (by omega) (by rw[TM];omega) ?_)
      intro H w2 b d _;have x:=iM.fO _ rfl t l q h b d;clear b d l q i h r t;go_wp2_with fail
      go_roundw
      case rel=>exact⟨k+1,n+1,n+1,[],true,false,A++[(first,a)],by go_num,by go_num,by go_num,rfl,rfl,⟨by omega,by omega,by omega,by simp,by simp;omega,x.1,dC.nil _ _,x.2,z.u⟩⟩
      case measure=>simp[intOf];omega
     ·obtain⟨m,O⟩:∃m,a.length=m+1:=⟨a.length-1,by omega⟩;obtain⟨g,rfl⟩:=R (by omega);obtain⟨c,I,aE,N⟩:=B.du O;rw[I] at y;rw[O] at aj ak aJ aD⊢;clear B R N h0;by_cases P:c=92
      ·have S:on=true/\start=true:=by rw[P] at y;simpa using y
       obtain⟨rfl,rfl⟩:=S;have aq:((c.toNat:Int)==92)=true:=by rw[P];rfl
       clear P y I;go_wp2_with fail
       refine(ac first ⟨(a).toArray⟩ wr (by rw[eh];omega)).mono ?_;rintro e o ⟨v,rfl,p,i⟩;obtain⟨L,j,rfl,q⟩:=p.row;clear p;obtain⟨cs,t,r⟩:=D;have l:=oc r i;have h :=C.trans (i.mono Z);have ad:=h.size;go_wp2_with (at_builtin;refine Uo _ rfl (.tmp 104) (.tmp 109) 215 rfl w.heap.size 218 V (.agg #[.int .i64 0,.int .u8 0,.string ⟨#[]⟩,.string ⟨#[]⟩]) 4 48 VP T ab aa U rfl (by decide) _ _ _ rfl (T_ l _) ⟨o.heap.size,0,none⟩ 1 1 [.int .i64 first,.int .u8 (rk (br (a))),.string L,.string j] rfl rfl (oi o _ _ _ _ _) (oh _ _ _ _ _ _) (by unfold maxLen;omega) (by omega) (by rw[TM];omega) ?_)
       intro H w2 b d _;have x:=iM.fO _ rfl t l q h b d;clear b d l q i h r t;go_wp2_with fail
       go_roundw
       case rel=>exact⟨k+1,n+1,n+1,[],true,false,A++[(first,a)],by go_num,by go_num,by go_num,rfl,rfl,⟨by omega,by omega,by omega,by simp,by simp;omega,x.1,dC.nil _ _,x.2,z.u⟩⟩
       case measure=>simp[intOf];omega
      ·have aq:((c.toNat:Int)==92)=false:=vI P;clear P y I;go_wp2_with fail
       refine(ac first ⟨(a).toArray⟩ wr (by rw[eh];omega)).mono ?_;rintro e o ⟨v,rfl,p,i⟩;obtain⟨L,j,rfl,q⟩:=p.row;clear p;obtain⟨cs,t,r⟩:=D;have l:=oc r i;have h :=C.trans (i.mono Z);have ad:=h.size;go_wp2_with (at_builtin;refine Uo _ rfl (.tmp 104) (.tmp 109) 215 rfl w.heap.size 218 V (.agg #[.int .i64 0,.int .u8 0,.string ⟨#[]⟩,.string ⟨#[]⟩]) 4 48 VP T ab aa U rfl (by decide) _ _ _ rfl (T_ l _) ⟨o.heap.size,0,none⟩ 1 1 [.int .i64 first,.int .u8 (rk (br (a))),.string L,.string j] rfl rfl (oi o _ _ _ _ _) (oh _ _ _ _ _ _) (by unfold maxLen;omega) (by omega) (by rw[TM];omega) ?_)
       intro H w2 b d _;have x:=iM.fO _ rfl t l q h b d;clear b d l q i h r t;go_wp2_with fail
       go_roundw
       case rel=>exact⟨k+1,n+1,n+1,[],true,false,A++[(first,a)],by go_num,by go_num,by go_num,rfl,rfl,⟨by omega,by omega,by omega,by simp,by simp;omega,x.1,dC.nil _ _,x.2,z.u⟩⟩
       case measure=>simp[intOf];omega
    |true=>
     have z:=aB (ah.u.kZ am.u HC.u y);have aG:a.length≠0:=by intro h0;rw[UH.1 h0] at y;cases y
     obtain⟨m,O⟩:∃m,a.length=m+1:=⟨a.length-1,by omega⟩;obtain⟨g,rfl⟩:=R (by omega);obtain⟨c,I,aE,N⟩:=B.du O;rw[I] at y;rw[O] at ak aD⊢;simp only[U0,Xc] at y;obtain⟨au,S⟩:=y;have aq:((c.toNat:Int)==92)=true:=by rw[show c=92 from by simpa using au];rfl
     have E:a.dropLast.length<=k-1:=by simp;omega
     obtain⟨f,aM⟩:∃f,f=a.dropLast:=⟨_,rfl⟩;rw[<-aM] at E N;rw[<-aM] at z;clear B R I au aj aG aM;cases on with
     |false=>
      clear S;go_wp2_with fail
      go_loopw [4] (λG Y=>Y =wr/\G= .slice (some ⟨g,0,none⟩) m cap) (λ_ _=>0)
      case atStart=>exact⟨rfl,rfl⟩
      case round=>
       obtain⟨rfl,rfl⟩:=hrel;go_wp2_with (at_builtin;refine Uo _ rfl (.tmp 99) (.tmp 100) 126 rfl w.heap.size 5 i0 (.int .u8 0) 1 1 Ui hi ap ar aw rfl (by decide) _ _ _ rfl (T_ N _) ⟨wr.heap.size,0,none⟩ 1 1 [jr 32] rfl rfl (pc wr _ _) (uA _) (by unfold maxLen;omega) (by omega) (by rw[TM];omega) ?_)
       intro H o b d _;have j:=dC.fO _ rfl N D C b d;clear b d;go_wp2_with fail
       go_roundw
       case rel=>exact⟨k+1,first,n+1,f++[32],true,true,A,by go_num,rfl,by go_num,rfl,rfl,⟨by omega,by omega,by omega,by simp;omega,by omega,j.2.1,j.1,j.2.2,z.u⟩⟩
       case measure=>simp[intOf];omega
     |true=>
      obtain rfl:start=false:=by simpa using S
      clear S;go_wp2_with fail
      go_loopw [4] (λG Y=>Y =wr/\G= .slice (some ⟨g,0,none⟩) m cap) (λ_ _=>0)
      case atStart=>exact⟨rfl,rfl⟩
      case round=>
       obtain⟨rfl,rfl⟩:=hrel;go_wp2_with (at_builtin;refine Uo _ rfl (.tmp 99) (.tmp 100) 126 rfl w.heap.size 5 i0 (.int .u8 0) 1 1 Ui hi ap ar aw rfl (by decide) _ _ _ rfl (T_ N _) ⟨wr.heap.size,0,none⟩ 1 1 [jr 32] rfl rfl (pc wr _ _) (uA _) (by unfold maxLen;omega) (by omega) (by rw[TM];omega) ?_)
       intro H o b d _;have j:=dC.fO _ rfl N D C b d;clear b d;go_wp2_with fail
       go_roundw
       case rel=>exact⟨k+1,first,n+1,f++[32],true,true,A,by go_num,rfl,by go_num,rfl,rfl,⟨by omega,by omega,by omega,by simp;omega,by omega,j.2.1,j.1,j.2.2,z.u⟩⟩
       case measure=>simp[intOf];omega
   ·have HC:Hid ((s.data.toList[k]' am.u==10)=false):=by show(s[k]'J==10)=false;simpa using an
    have aV:(((s[k]'J).toNat:Int)==10)=false:=by rw[TQ];intro h2;apply an;rw[<-V6];exact Xi h2
    clear an;cases af:(on&&start&&Mk.dF (s[k]'J)) with
    |true=>
     have z:=aB (ah.u.skip am.u HC.u af);simp only[U0] at af;obtain⟨⟨rfl,rfl⟩,aF⟩:=af;go_wp2_with fail
     refine(lT _ _).mono ?_;rintro e o ⟨rfl,rfl⟩;rw[aF];go_wp2_with fail
     go_roundw
     case rel=>exact⟨k+1,first,n,a,true,true,A,by go_num,rfl,rfl,rfl,rfl,⟨by omega,by omega,hf,by omega,by omega,D,B,C,z.u⟩⟩
     case measure=>simp[intOf];omega
    |false=>
     have z:=aB (ah.u.u4 am.u HC.u af);cases on with
     |false=>
      clear af;go_wp2_with fail
      refine(lT _ _).mono ?_;rintro e o ⟨rfl,rfl⟩;go_wp2_with (at_builtin;refine Uo _ rfl (.tmp 42) (.tmp 46) 126 rfl w.heap.size 5 i0 (.int .u8 0) 1 1 Ui hi ap ar aw rfl (by decide) _ _ _ rfl (T_ B _) ⟨wr.heap.size,0,none⟩ 1 1 [jr (s[k]'J)] rfl rfl (pc wr _ _) (uA _) (by unfold maxLen;omega) (by omega) (by rw[TM];omega) ?_)
      intro H o b d _;have j:=dC.fO _ rfl B D C b d;clear b d;go_wp2_with fail
      go_roundw
      case rel=>exact⟨k+1,first,n,a++[s[k]'J],false,false,A,by go_num,rfl,rfl,rfl,rfl,⟨by omega,by omega,hf,by simp;omega,by omega,j.2.1,j.1,j.2.2,z.u⟩⟩
      case measure=>simp[intOf];omega
     |true=>
      cases start with
      |false=>
       clear af;go_wp2_with fail
       refine(lT _ _).mono ?_;rintro e o ⟨rfl,rfl⟩;go_wp2_with (at_builtin;refine Uo _ rfl (.tmp 42) (.tmp 46) 126 rfl w.heap.size 5 i0 (.int .u8 0) 1 1 Ui hi ap ar aw rfl (by decide) _ _ _ rfl (T_ B _) ⟨wr.heap.size,0,none⟩ 1 1 [jr (s[k]'J)] rfl rfl (pc wr _ _) (uA _) (by unfold maxLen;omega) (by omega) (by rw[TM];omega) ?_)
       intro H o b d _;have j:=dC.fO _ rfl B D C b d;clear b d;go_wp2_with fail
       go_roundw
       case rel=>exact⟨k+1,first,n,a++[s[k]'J],false,true,A,by go_num,rfl,rfl,rfl,rfl,⟨by omega,by omega,hf,by simp;omega,by omega,j.2.1,j.1,j.2.2,z.u⟩⟩
       case measure=>simp[intOf];omega
      |true=>
       have aF:Mk.dF (s[k]'J)=false:=by simpa using af
       clear af;go_wp2_with fail
       refine(lT _ _).mono ?_;rintro e o ⟨rfl,rfl⟩;rw[aF];go_wp2_with (at_builtin;refine Uo _ rfl (.tmp 42) (.tmp 46) 126 rfl w.heap.size 5 i0 (.int .u8 0) 1 1 Ui hi ap ar aw rfl (by decide) _ _ _ rfl (T_ B _) ⟨wr.heap.size,0,none⟩ 1 1 [jr (s[k]'J)] rfl rfl (pc wr _ _) (uA _) (by unfold maxLen;omega) (by omega) (by rw[TM];omega) ?_)
       intro H o b d _;have j:=dC.fO _ rfl B D C b d;clear b d;go_wp2_with fail
       go_roundw
       case rel=>exact⟨k+1,first,n,a++[s[k]'J],false,true,A,by go_num,rfl,rfl,rfl,rfl,⟨by omega,by omega,hf,by simp;omega,by omega,j.2.1,j.1,j.2.2,z.u⟩⟩
       case measure=>simp[intOf];omega
  ·by_cases aX:k=s.size
   ·subst aX;have aZ:((s.size:Int)==(s.size:Int))=true:=by simp
    obtain⟨ao,cap,rfl,ak,R⟩:=B.iN;have aj:=B.conv;cases y:(dR a&& !(on&&start)) with
    |false=>
     have z:=aB (ah.u.du HL.u y);have aJ:a.length<=4294967100:=by omega
     by_cases h0:a.length=0
     ·clear y B R;rw[h0] at aj ak⊢;go_wp2_with fail
      refine(ac first ⟨(a).toArray⟩ wr (by rw[eh];omega)).mono ?_;rintro e o ⟨v,rfl,p,i⟩;obtain⟨L,j,rfl,q⟩:=p.row;clear p;obtain⟨cs,t,r⟩:=D;have l:=oc r i;have h :=C.trans (i.mono Z);have ad:=h.size;go_wp2_with (at_builtin;refine Uo _ rfl (.tmp 104) (.tmp 109) 215 rfl w.heap.size 218 V (.agg #[.int .i64 0,.int .u8 0,.string ⟨#[]⟩,.string ⟨#[]⟩]) 4 48 VP T ab aa U rfl (by decide) _ _ _ rfl (T_ l _) ⟨o.heap.size,0,none⟩ 1 1 [.int .i64 first,.int .u8 (rk (br (a))),.string L,.string j] rfl rfl (oi o _ _ _ _ _) (oh _ _ _ _ _ _) (by unfold maxLen;omega) (by omega) (by rw[TM];omega) ?_)
      intro H w2 b d _;have x:=iM.fO _ rfl t l q h b d;clear b d l q i h r t;go_wp2_with fail
      go_roundw
      case rel=>exact⟨s.size+1,n+1,n+1,[],true,false,A++[(first,a)],by go_num,by go_num,by go_num,rfl,rfl,⟨by omega,by omega,by omega,by simp,by simp;omega,x.1,dC.nil _ _,x.2,z.u⟩⟩
      case measure=>simp[intOf]
     ·obtain⟨m,O⟩:∃m,a.length=m+1:=⟨a.length-1,by omega⟩;obtain⟨g,rfl⟩:=R (by omega);obtain⟨c,I,aE,N⟩:=B.du O;rw[I] at y;rw[O] at aj ak aJ aD⊢;clear B R N h0;by_cases P:c=92
      ·have S:on=true/\start=true:=by rw[P] at y;simpa using y
       obtain⟨rfl,rfl⟩:=S;have aq:((c.toNat:Int)==92)=true:=by rw[P];rfl
       clear P y I;go_wp2_with fail
       refine(ac first ⟨(a).toArray⟩ wr (by rw[eh];omega)).mono ?_;rintro e o ⟨v,rfl,p,i⟩;obtain⟨L,j,rfl,q⟩:=p.row;clear p;obtain⟨cs,t,r⟩:=D;have l:=oc r i;have h :=C.trans (i.mono Z);have ad:=h.size;go_wp2_with (at_builtin;refine Uo _ rfl (.tmp 104) (.tmp 109) 215 rfl w.heap.size 218 V (.agg #[.int .i64 0,.int .u8 0,.string ⟨#[]⟩,.string ⟨#[]⟩]) 4 48 VP T ab aa U rfl (by decide) _ _ _ rfl (T_ l _) ⟨o.heap.size,0,none⟩ 1 1 [.int .i64 first,.int .u8 (rk (br (a))),.string L,.string j] rfl rfl (oi o _ _ _ _ _) (oh _ _ _ _ _ _) (by unfold maxLen;omega) (by omega) (by rw[TM];omega) ?_)
       intro H w2 b d _;have x:=iM.fO _ rfl t l q h b d;clear b d l q i h r t;go_wp2_with fail
       go_roundw
       case rel=>exact⟨s.size+1,n+1,n+1,[],true,false,A++[(first,a)],by go_num,by go_num,by go_num,rfl,rfl,⟨by omega,by omega,by omega,by simp,by simp;omega,x.1,dC.nil _ _,x.2,z.u⟩⟩
       case measure=>simp[intOf]
      ·have aq:((c.toNat:Int)==92)=false:=vI P;clear P y I;go_wp2_with fail
       refine(ac first ⟨(a).toArray⟩ wr (by rw[eh];omega)).mono ?_;rintro e o ⟨v,rfl,p,i⟩;obtain⟨L,j,rfl,q⟩:=p.row;clear p;obtain⟨cs,t,r⟩:=D;have l:=oc r i;have h :=C.trans (i.mono Z);have ad:=h.size;go_wp2_with (at_builtin;refine Uo _ rfl (.tmp 104) (.tmp 109) 215 rfl w.heap.size 218 V (.agg #[.int .i64 0,.int .u8 0,.string ⟨#[]⟩,.string ⟨#[]⟩]) 4 48 VP T ab aa U rfl (by decide) _ _ _ rfl (T_ l _) ⟨o.heap.size,0,none⟩ 1 1 [.int .i64 first,.int .u8 (rk (br (a))),.string L,.string j] rfl rfl (oi o _ _ _ _ _) (oh _ _ _ _ _ _) (by unfold maxLen;omega) (by omega) (by rw[TM];omega) ?_)
       intro H w2 b d _;have x:=iM.fO _ rfl t l q h b d;clear b d l q i h r t;go_wp2_with fail
       go_roundw
       case rel=>exact⟨s.size+1,n+1,n+1,[],true,false,A++[(first,a)],by go_num,by go_num,by go_num,rfl,rfl,⟨by omega,by omega,by omega,by simp,by simp;omega,x.1,dC.nil _ _,x.2,z.u⟩⟩
       case measure=>simp[intOf]
    |true=>
     have aC:=aB (ah.u.Og HL.u y);have aG:a.length≠0:=by intro h0;rw[UH.1 h0] at y;cases y
     obtain⟨m,O⟩:∃m,a.length=m+1:=⟨a.length-1,by omega⟩;obtain⟨g,rfl⟩:=R (by omega);obtain⟨c,I,aE,N⟩:=B.du O;rw[I] at y;rw[O] at ak aD⊢;simp only[U0,Xc] at y;obtain⟨au,S⟩:=y;have aq:((c.toNat:Int)==92)=true:=by rw[show c=92 from by simpa using au];rfl
     clear B R I au aj aG;cases on with
     |false=>
      clear S;go_wp2_with fail
      go_loopw [4] (λG Y=>Y =wr/\∃(F :Nat) (f:ag),G= .slice (some ⟨g,0,none⟩) F cap/\f.length=F /\F <=cap/\F +1<=s.size/\dC wr w.heap.size G f/\gg f=gg a.dropLast) (λG _=>wR G)
      case atStart=>exact⟨rfl,m,a.dropLast,rfl,by simp;omega,by omega,by omega,N,rfl⟩
      case round=>
       obtain⟨aN,F,f,rfl,E,aW,aY,al,aA⟩:=hrel;subst aN;have ai:=aB aA;clear aA;have aI:=al.conv;by_cases aR:F =0
       ·subst aR;have z:Hid (fI s.data.toList (s.size+1) (n+1) (n+1) [] true false (A++[(first,f)])):=by have Q:=aC.u;rw[<-ai.u,UH.1 E] at Q;rw[UH.1 E];exact Q
        have aQ :f.length<=4294967100:=by omega
        clear E;go_wp2_with fail
        refine(ac first ⟨(f).toArray⟩ wr (by rw[eh];omega)).mono ?_;rintro e o ⟨v,rfl,p,i⟩;obtain⟨L,j,rfl,q⟩:=p.row;clear p;obtain⟨cs,t,r⟩:=D;have l:=oc r i;have h :=C.trans (i.mono Z);have ad:=h.size;go_wp2_with (at_builtin;refine Uo _ rfl (.tmp 104) (.tmp 109) 215 rfl w.heap.size 218 V (.agg #[.int .i64 0,.int .u8 0,.string ⟨#[]⟩,.string ⟨#[]⟩]) 4 48 VP T ab aa U rfl (by decide) _ _ _ rfl (T_ l _) ⟨o.heap.size,0,none⟩ 1 1 [.int .i64 first,.int .u8 (rk (br (f))),.string L,.string j] rfl rfl (oi o _ _ _ _ _) (oh _ _ _ _ _ _) (by unfold maxLen;omega) (by omega) (by rw[TM];omega) ?_)
        intro H w2 b d _;have x:=iM.fO _ rfl t l q h b d;clear b d l q i h r t;go_wp2_with fail
        go_roundw
        case rel=>exact⟨s.size+1,n+1,n+1,[],true,false,A++[(first,f)],by go_num,by go_num,by go_num,rfl,rfl,⟨by omega,by omega,by omega,by simp,by simp;omega,x.1,dC.nil _ _,x.2,z.u⟩⟩
        case measure=>simp[intOf]
       ·obtain⟨M,rfl⟩:∃M,F =M+1:=⟨F -1,by omega⟩;obtain⟨c2,ae,aU,av⟩:=dC.du (m:=M) (by rw[E];exact al) E;by_cases K:c2=92
        ·have aH:((c2.toNat:Int)==92)=true:=by rw[K];rfl
         have aO:Hid (gg f.dropLast=gg a.dropLast):=by show _=_;rw[yo f (by rw[ae,K];rfl)];exact ai.u
         have aL:=aB (show f.dropLast.length=M by simp;omega);have aP:M<=cap:=by omega
         clear K ae aI al E;go_wp2_with fail
         go_roundw
         case rel=>exact⟨trivial,M,f.dropLast,rfl,aL.u,aP,by omega,av,aO.u⟩
         case measure=>simp[wR]
        ·have aH:((c2.toNat:Int)==92)=false:=vI K;have z:Hid (fI s.data.toList (s.size+1) (n+1) (n+1) [] true false (A++[(first,f)])):=by have Q:=aC.u;rw[<-ai.u,Ei f (by rw[ae];simpa using K)] at Q;exact Q
         have aQ :f.length<=4294967100:=by omega
         clear K ae E av;go_wp2_with fail
         refine(ac first ⟨(f).toArray⟩ wr (by rw[eh];omega)).mono ?_;rintro e o ⟨v,rfl,p,i⟩;obtain⟨L,j,rfl,q⟩:=p.row;clear p;obtain⟨cs,t,r⟩:=D;have l:=oc r i;have h :=C.trans (i.mono Z);have ad:=h.size;go_wp2_with (at_builtin;refine Uo _ rfl (.tmp 104) (.tmp 109) 215 rfl w.heap.size 218 V (.agg #[.int .i64 0,.int .u8 0,.string ⟨#[]⟩,.string ⟨#[]⟩]) 4 48 VP T ab aa U rfl (by decide) _ _ _ rfl (T_ l _) ⟨o.heap.size,0,none⟩ 1 1 [.int .i64 first,.int .u8 (rk (br (f))),.string L,.string j] rfl rfl (oi o _ _ _ _ _) (oh _ _ _ _ _ _) (by unfold maxLen;omega) (by omega) (by rw[TM];omega) ?_)
         intro H w2 b d _;have x:=iM.fO _ rfl t l q h b d;clear b d l q i h r t;go_wp2_with fail
         go_roundw
         case rel=>exact⟨s.size+1,n+1,n+1,[],true,false,A++[(first,f)],by go_num,by go_num,by go_num,rfl,rfl,⟨by omega,by omega,by omega,by simp,by simp;omega,x.1,dC.nil _ _,x.2,z.u⟩⟩
         case measure=>simp[intOf]
     |true=>
      obtain rfl:start=false:=by simpa using S
      clear S;go_wp2_with fail
      go_loopw [4] (λG Y=>Y =wr/\∃(F :Nat) (f:ag),G= .slice (some ⟨g,0,none⟩) F cap/\f.length=F /\F <=cap/\F +1<=s.size/\dC wr w.heap.size G f/\gg f=gg a.dropLast) (λG _=>wR G)
      case atStart=>exact⟨rfl,m,a.dropLast,rfl,by simp;omega,by omega,by omega,N,rfl⟩
      case round=>
       obtain⟨aN,F,f,rfl,E,aW,aY,al,aA⟩:=hrel;subst aN;have ai:=aB aA;clear aA;have aI:=al.conv;by_cases aR:F =0
       ·subst aR;have z:Hid (fI s.data.toList (s.size+1) (n+1) (n+1) [] true false (A++[(first,f)])):=by have Q:=aC.u;rw[<-ai.u,UH.1 E] at Q;rw[UH.1 E];exact Q
        have aQ :f.length<=4294967100:=by omega
        clear E;go_wp2_with fail
        refine(ac first ⟨(f).toArray⟩ wr (by rw[eh];omega)).mono ?_;rintro e o ⟨v,rfl,p,i⟩;obtain⟨L,j,rfl,q⟩:=p.row;clear p;obtain⟨cs,t,r⟩:=D;have l:=oc r i;have h :=C.trans (i.mono Z);have ad:=h.size;go_wp2_with (at_builtin;refine Uo _ rfl (.tmp 104) (.tmp 109) 215 rfl w.heap.size 218 V (.agg #[.int .i64 0,.int .u8 0,.string ⟨#[]⟩,.string ⟨#[]⟩]) 4 48 VP T ab aa U rfl (by decide) _ _ _ rfl (T_ l _) ⟨o.heap.size,0,none⟩ 1 1 [.int .i64 first,.int .u8 (rk (br (f))),.string L,.string j] rfl rfl (oi o _ _ _ _ _) (oh _ _ _ _ _ _) (by unfold maxLen;omega) (by omega) (by rw[TM];omega) ?_)
        intro H w2 b d _;have x:=iM.fO _ rfl t l q h b d;clear b d l q i h r t;go_wp2_with fail
        go_roundw
        case rel=>exact⟨s.size+1,n+1,n+1,[],true,false,A++[(first,f)],by go_num,by go_num,by go_num,rfl,rfl,⟨by omega,by omega,by omega,by simp,by simp;omega,x.1,dC.nil _ _,x.2,z.u⟩⟩
        case measure=>simp[intOf]
       ·obtain⟨M,rfl⟩:∃M,F =M+1:=⟨F -1,by omega⟩;obtain⟨c2,ae,aU,av⟩:=dC.du (m:=M) (by rw[E];exact al) E;by_cases K:c2=92
        ·have aH:((c2.toNat:Int)==92)=true:=by rw[K];rfl
         have aO:Hid (gg f.dropLast=gg a.dropLast):=by show _=_;rw[yo f (by rw[ae,K];rfl)];exact ai.u
         have aL:=aB (show f.dropLast.length=M by simp;omega);have aP:M<=cap:=by omega
         clear K ae aI al E;go_wp2_with fail
         go_roundw
         case rel=>exact⟨trivial,M,f.dropLast,rfl,aL.u,aP,by omega,av,aO.u⟩
         case measure=>simp[wR]
        ·have aH:((c2.toNat:Int)==92)=false:=vI K;have z:Hid (fI s.data.toList (s.size+1) (n+1) (n+1) [] true false (A++[(first,f)])):=by have Q:=aC.u;rw[<-ai.u,Ei f (by rw[ae];simpa using K)] at Q;exact Q
         have aQ :f.length<=4294967100:=by omega
         clear K ae E av;go_wp2_with fail
         refine(ac first ⟨(f).toArray⟩ wr (by rw[eh];omega)).mono ?_;rintro e o ⟨v,rfl,p,i⟩;obtain⟨L,j,rfl,q⟩:=p.row;clear p;obtain⟨cs,t,r⟩:=D;have l:=oc r i;have h :=C.trans (i.mono Z);have ad:=h.size;go_wp2_with (at_builtin;refine Uo _ rfl (.tmp 104) (.tmp 109) 215 rfl w.heap.size 218 V (.agg #[.int .i64 0,.int .u8 0,.string ⟨#[]⟩,.string ⟨#[]⟩]) 4 48 VP T ab aa U rfl (by decide) _ _ _ rfl (T_ l _) ⟨o.heap.size,0,none⟩ 1 1 [.int .i64 first,.int .u8 (rk (br (f))),.string L,.string j] rfl rfl (oi o _ _ _ _ _) (oh _ _ _ _ _ _) (by unfold maxLen;omega) (by omega) (by rw[TM];omega) ?_)
         intro H w2 b d _;have x:=iM.fO _ rfl t l q h b d;clear b d l q i h r t;go_wp2_with fail
         go_roundw
         case rel=>exact⟨s.size+1,n+1,n+1,[],true,false,A++[(first,f)],by go_num,by go_num,by go_num,rfl,rfl,⟨by omega,by omega,by omega,by simp,by simp;omega,x.1,dC.nil _ _,x.2,z.u⟩⟩
         case measure=>simp[intOf]
   ·have HD:=aB (ah.u.done (by have:=HL.u;omega));go_wp2_with fail
    go_ret;exact⟨_,rfl,by rw[HD.u];exact D,C⟩
structure Sg where
 on:Bool
 ja:ag
 first:ag
 all:ag
 stem:ag
def jf (g:Sg)(c:UInt8):Option ag:=if g.on=false then none else if c=64 then some g.ja else if c=60 then some g.first else if c=94 then some g.all else if c=42 then some g.stem else none
structure XM (W:ax)(xb:Nat)(vn:ay)(L:List Rn)(g:Sg)(k:Nat)(vb:ay)(m:List ag)(er:Nat):Prop where
 row:aG W xb 232 [vn,.bool g.on,aK g.ja,aK g.first,aK g.all,aK g.stem,.int .i64 (k:Int),vb,.int .i64 (er:Int)]
 busy:W.ownsRow (xb+1) 9 1 vb m.length (m.map aK)
 nm:∃a cap b o,vn= .slice a L.length cap/\(0<L.length->a=some ⟨b,o,none⟩)/\tD W b o L/\(0<L.length->b<xb)
structure XF (W W' :ax)(xb:Nat)(vb vb' :ay):Prop where
 bU:Below 0 W W'
 jo:∀q,q<W.heap.size->q≠xb->some q≠vb.ownBlock->W'.heap[q]?=W.heap[q]?
 nQ :vb'.ownBlock=vb.ownBlock\/∃q,vb'.ownBlock=some q/\W.heap.size<=q
section
variable {W W' X:ax} {xb:Nat} {vn vb vb' vc:ay} {L:List Rn} {g:Sg} {k:Nat} {m:List ag} {er:Nat}
theorem XF.refl (W:ax)(xb:Nat)(vb:ay):XF W W xb vb vb:=⟨TF _ _,λ_ _ _ _=>rfl,.inl rfl⟩
theorem XF.trans (h:XF W W' xb vb vb')(k:XF W' X xb vb' vc):XF W X xb vb vc:=by
 have d:=h.bU.size;refine⟨h.bU.trans k.bU,λq c a b=> ?_,?_⟩
 ·rw[k.jo q (by omega) a (λe=> ?_),h.jo q c a b];rcases h.nQ with e1|⟨p,e1,e2⟩
  ·exact b (e.trans e1)
  ·rw[e1] at e;cases e;omega
 ·rcases k.nQ with e|⟨p,e1,e2⟩
  ·rw[e];exact h.nQ
  ·exact .inr ⟨p,e1,by omega⟩
theorem XF.bA (a:Below W.heap.size W W'):XF W W' xb vb vb:=⟨a.mono (TS _),λq b _ _=>a.block q b,.inl rfl⟩
theorem XF.set (j:Nat)(u:ay):XF W (W.setCell ⟨xb,j,none⟩ u) xb vb vb:=⟨(TF _ _).setCell (p:=⟨xb,j,none⟩) (TS _) u,λ_ _ a _=>T5 _ _ _ _ a,.inl rfl⟩
theorem XF.xq (h:XF W W' xb vb vb'):XF W W'.drew xb vb vb' :=⟨⟨h.bU.os,h.bU.tape,h.bU.output,h.bU.size,h.bU.block⟩,h.jo,h.nQ⟩
theorem XF.aL (h:XF W W' xb vb vb')(c:xb<=W.heap.size)(a:∀q,vb.ownBlock=some q->xb<q):Below xb W W' :=⟨h.bU.os,h.bU.tape,h.bU.output,h.bU.size,λq b=>h.jo q (by omega) (by omega) (λe=>by have:=a q e.symm;omega)⟩
theorem XM.lt (h:XM W xb vn L g k vb m er):∀q,vb.ownBlock=some q->xb<q:=λq a=>by have:=(T3 h.busy q a).1;omega
theorem XM.same (h:XM W xb vn L g k vb m er)(n:W'.heap[xb]?=W.heap[xb]?)(l:∀q,vb.ownBlock=some q->W'.heap[q]?=W.heap[q]?)(t:∀q,q<xb->W'.heap[q]?=W.heap[q]?):XM W' xb vn L g k vb m er:=by
 obtain⟨i,o,a,cap,b,p,r,s,f,e⟩:=h;refine⟨n.trans i,bT o l,a,cap,b,p,r,s,λj u=> ?_,e⟩;have c:∀d,W'.cell? ⟨b,d,none⟩=W.cell? ⟨b,d,none⟩:=λd=>by unfold World.cell?;rw[t b (e (by omega))]
 rw[c,c,c];exact f j u
theorem XM.aE (h:XM W xb vn L g k vb m er)(a:Below W.heap.size W W'):XM W' xb vn L g k vb m er:=h.same (a.block _ h.row.lt) (λq b=>a.block q (T3 h.busy q b).2) (λq b=>a.block q (by have:=h.row.lt;omega))
theorem XM.uZ (h:XM W xb vn L g k vb m er)(e j :Nat){u:ay}(v:(d=6/\u= .int .i64 (e :Int)/\j =er)\/(d=8/\u= .int .i64 (j :Int)/\e =k)):XM (W.setCell ⟨xb,d,none⟩ u) xb vn L g e vb m j :=by
 have l:∀q,q≠xb->(W.setCell ⟨xb,d,none⟩ u).heap[q]?=W.heap[q]?:=λq i=>T5 _ _ _ _ i;have s:=h.row.set d u;obtain⟨z,o,a,cap,b,t,w,x,p,n⟩:=h;refine⟨?_,bT o λq i=>l q (by have:=(T3 o q i).1;omega),a,cap,b,t,w,x,λr y=> ?_,n⟩
 ·rcases v with⟨rfl,rfl,rfl⟩|⟨rfl,rfl,rfl⟩<;>exact s
 ·have f:∀c,(W.setCell ⟨xb,d,none⟩ u).cell? ⟨b,c,none⟩=W.cell? ⟨b,c,none⟩:=λc=>by unfold World.cell?;rw[l b (by have:=n (by omega);omega)]
  rw[f,f,f];exact p r y
theorem XM.grown {n:ag}{v:ay}{X:ax}(h:XM W xb vn L g k vb m er)(f:(W.alloc c).grownBy X vb.ownBlock)(x:X.ownsRow (xb+1) 9 1 v (m.length+1) (m.map aK++[aK n]))(I:v.ownBlock=vb.ownBlock\/v.ownBlock=some (W.alloc c).heap.size):
 aG X xb 232 [vn,.bool g.on,aK g.ja,aK g.first,aK g.all,aK g.stem,.int .i64 (k:Int),vb,.int .i64 (er:Int)]/\XM (X.setCell ⟨xb,7,none⟩ v) xb vn L g k v (m++[n]) er/\XF W (X.setCell ⟨xb,7,none⟩ v) xb vb v/\∀q,q<W.heap.size->q≠xb->some q≠vb.ownBlock->(X.setCell ⟨xb,7,none⟩ v).heap[q]?=W.heap[q]?:=by
 have B:=h.row.lt;have s:∀q,vb.ownBlock=some q->xb<q:=h.lt;have y:∀q,q<W.heap.size->some q≠vb.ownBlock->X.heap[q]?=W.heap[q]?:=λq i l=>(f.block q (by rw[TM];omega) l).trans (((TF W.heap.size W).alloc ak c).block q i);have t:∀q,q≠xb->(X.setCell ⟨xb,7,none⟩ v).heap[q]?=X.heap[q]?:=λq d=>T5 _ _ _ _ d;have E:some xb≠vb.ownBlock:=λe=>by have:=s xb e.symm;omega
 have u:aG X xb 232 [vn,.bool g.on,aK g.ja,aK g.first,aK g.all,aK g.stem,.int .i64 (k:Int),vb,.int .i64 (er:Int)]:=(y xb B E).trans h.row;have j:∀q,q<W.heap.size->q≠xb->some q≠vb.ownBlock->(X.setCell ⟨xb,7,none⟩ v).heap[q]?=W.heap[q]?:=λq i l D=>(t q l).trans (y q i D);obtain⟨N,M,a,cap,b,J,A,C,G,w⟩:=h;have z:∀q,v.ownBlock=some q->xb<q:=λq d=>by have:=(T3 x q d).1;omega
 refine⟨u,⟨u.set 7 v,?_,a,cap,b,J,A,C,λH F=> ?_,w⟩,⟨?_,j,?_⟩,j⟩
 ·rw[TE,T'];exact bT x λq d=>t q (by have:=z q d;omega)
 ·have K:=w (by omega);have o:∀r,(X.setCell ⟨xb,7,none⟩ v).cell? ⟨b,r,none⟩=W.cell? ⟨b,r,none⟩:=λr=>by unfold World.cell?;rw[j b (by omega) (by omega) (λe=>by have:=s b e.symm;omega)]
  rw[o,o,o];exact G H F
 ·have i:Below 0 W X:=⟨f.os,f.tape,f.output,TT (by rw[TM];omega) f.size,λq d=>by omega⟩;exact i.setCell (p:=⟨xb,7,none⟩) (TS _) _
 ·rcases I with e|e
  ·exact .inl e
  ·exact .inr ⟨_,e,by rw[TM];omega⟩
theorem XM.Tq {n:ag}{cap:Nat}(h:XM W xb vn L g k (.slice (some ⟨d,0,none⟩) (m.length+1) cap) (m++[n]) er):XM (W.setCell ⟨xb,7,none⟩ (.slice (some ⟨d,0,none⟩) m.length cap)) xb vn L g k (.slice (some ⟨d,0,none⟩) m.length cap) m er:=by
 have o:∀q,q≠xb->(W.setCell ⟨xb,7,none⟩ (.slice (some ⟨d,0,none⟩) m.length cap)).heap[q]?=W.heap[q]?:=λq j=>T5 _ _ _ _ j;have x:=h.row.set 7 (.slice (some ⟨d,0,none⟩) m.length cap);obtain⟨z,i,a,y,b,r,s,t,v,p⟩:=h;have A:=(T3 i d rfl).1;rw[TE,T6] at i;have l:=GH i m.length (by omega);rw[T',Xr (by simp),Uh (by simp)] at l;refine⟨x,bT l λq j=>o q (by have e:d=q:=UX j;omega),a,y,b,r,s,t,λw u=> ?_,p⟩;have f:∀c,(W.setCell ⟨xb,7,none⟩ (.slice (some ⟨d,0,none⟩) m.length cap)).cell? ⟨b,c,none⟩=W.cell? ⟨b,c,none⟩:=λc=>by unfold World.cell?;rw[o b (by have:=p (by omega);omega)]
 rw[f,f,f];exact v w u
end
def eT:List Rn->List ag->Nat
 |[],_=>0
 |x::a,m=>(if x.name∈m\/x.iZ=true then 0 else x.aT.length)+eT a m
theorem yR:∀(L:List Rn) (m:List ag) (n:ag),eT L (m++[n])<=eT L m
 |[],_,_=>TD _
 |z::b,m,n=>by
  have c:=yR b m n;unfold eT;by_cases a:z.name∈m\/z.iZ=true
  ·rw[TP (a.imp (Ul _) id),TP a];omega
  ·rw[TJ a];split<;>omega
theorem Fx {n:ag}{m:List ag}(c:n∉m):∀{L:List Rn} {x:Rn},x∈L->x.name=n->x.iZ=false->x.aT.length+eT L (m++[n])<=eT L m
 |y::e,x,h,b,d=>by
  have mono:=yR e m n;unfold eT;rcases Ue.1 h with rfl|h'
  ·rw[TP (.inl (by rw[b];exact Un _ (TL.2 rfl))),TJ (by rw[b,d];simpa using c)];omega
  ·have f:=Fx c h' b d;by_cases a:y.name∈m\/y.iZ=true
   ·rw[TP (a.imp (Ul _) id),TP a];omega
   ·rw[TJ a];split<;>omega
end Go.Proofs.YtjelacjggijmfaaGreatDoor
namespace Go.Proofs
open RowKit Maps Go.Sort Shelf
end Go.Proofs
namespace Go.Proofs.YtjelacjggijmfaaGreatDoor
open Pl Mk Cp Proofs.Tryz
open RowKit MapKept ChangeMaps Maps Go.Sort
