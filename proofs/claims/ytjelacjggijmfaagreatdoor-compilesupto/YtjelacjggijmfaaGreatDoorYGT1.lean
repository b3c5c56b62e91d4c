/- . -/
import Derived.Test.YtjelacjggijmfaaGreatDoorYWRA
import Derived.Lib.AppendZerosOnto
set_option maxHeartbeats 2000000
set_option maxRecDepth 100000
namespace Go.Proofs.YtjelacjggijmfaaGreatDoor
open Pl Mk Cp Proofs.Tryz
open RowKit MapKept ChangeMaps Maps
theorem Bu (i g n:Nat)(m:ay)(p:List bL)(b:List aI)(o:Int)(a:ag)(w:ax)(h:PW w i g n m p b o):
 Calls prog 87 #[.pointer (some ⟨i,0,none⟩),.string ⟨a.toArray⟩] w λe l=>e= .returned (match Pl.look b a with|some d=> .tuple #[.string ⟨d.aT.toArray⟩,.bool true]|none=> .tuple #[.string ⟨#[]⟩,.bool false])/\Below w.heap.size w l :=by
 have k:=h.row.cell 0 (by simp);simp only[TG] at k;have j:=aB h.aX;cases c:Pl.look b a with
 |some d=>
  have f:Hid (cJ (gB b) a=some (j9 d)):=by show _=_;rw[sX,c];rfl
  clear h c;go_enter func87,ntmps87;go_wp2_with (first|(at_lookup;refine pQ _ rfl _ _ 177 rfl 9 65 WE T0 _ (sy _) g (gB b) rfl j.u a rfl (j9 d) f.u ?_;unfold j9)|fail)
  go_ret2
  exact⟨rfl,aj w _⟩
 |none=>
  have f:Hid (cJ (gB b) a=none):=by show _=_;rw[sX,c];rfl
  clear h c;go_enter func87,ntmps87;go_wp2_with (first|(at_lookup;refine pR _ rfl _ _ 177 rfl 9 65 WE T0 _ (sy _) g (gB b) rfl j.u a rfl f.u ?_)|fail)
  go_ret2
  exact⟨rfl,aj w _⟩
def cS (s:ag):Bool:=Lib.contains s [37]
def iT (s:ag):Bool:=decide (1<Lib.countByte s 37)
def dJ (a b:ag):ag:=Lib.replaceAll a [37] b
theorem BF (s:ag)(w:ax)(b:c_ w)(f:s.length<=4294967200):Calls prog 227 #[.string ⟨s.toArray⟩] w λe a=>e= .returned (.bool (cS s))/\a =w:=by
 obtain⟨m,d⟩:=b;have c:Hid (Calls prog 140 #[.string ⟨s.toArray⟩,.string ⟨#[37]⟩] w λe a=>e= .returned (.bool (cS s))/\a =w):=Any.strings_Contains Tryz.Ht ⟨s.toArray⟩ ⟨#[37]⟩ m w (by show s.length<_;omega) d;go_enter func227,ntmps227;go_wp2_with (first|(go_at_call 140;refine c.u.mono ?_;rintro e g ⟨rfl,rfl⟩)|fail)
 go_ret;exact⟨rfl,rfl⟩
theorem JI (s:ag)(w:ax):Calls prog 226 #[.string ⟨s.toArray⟩] w λe a=>e= .returned (.bool (iT s))/\a =w:=by
 have f:Hid (Calls prog 266 #[.string ⟨s.toArray⟩,.string ⟨#[37]⟩] w λe a=>e= .returned (.int .i64 (Lib.countByte s 37))/\a =w):=Any.strings_Count_one Tryz.Rz ⟨s.toArray⟩ 37 w;have b:iT s=decide (1<Lib.countByte s 37):=rfl;rw[b];generalize Lib.countByte s 37=n at*;clear b;have c:decide ((1:Int)<(n:Int))=decide (1<n):=by rw[Xn];omega
 have d:=aB c;clear c;go_enter func226,ntmps226;go_wp2_with (first|(go_at_call 266;refine f.u.mono ?_;rintro e g ⟨rfl,rfl⟩)|fail)
 go_ret;exact⟨by rw[<-d.u];rfl,rfl⟩
theorem E5 (a b:ag)(w:ax)(f:c_ w)(k:a.length<=4294967200)(d:a.length+Lib.countB ⟨a.toArray⟩ ⟨#[37]⟩*b.length<=140737488355328):Calls prog 187 #[.string ⟨a.toArray⟩,.string ⟨b.toArray⟩] w λe c=>e= .returned (.string ⟨(dJ a b).toArray⟩)/\Below w.heap.size w c :=by
 obtain⟨m,i⟩:=f;have g:Hid (Calls prog 235 #[.string ⟨a.toArray⟩,.string ⟨#[37]⟩,.string ⟨b.toArray⟩] w λe c=>e= .returned (.string ⟨(dJ a b).toArray⟩)/\Below w.heap.size w c):=Any.strings_ReplaceAll Tryz.RM Tryz.tE ⟨a.toArray⟩ ⟨#[37]⟩ ⟨b.toArray⟩ m w (by show a.length<_;omega) i (TD 1) d;go_enter func187,ntmps187;go_wp2_with (first|(go_at_call 235;refine g.u.mono ?_;rintro e j ⟨rfl,h⟩)|fail)
 go_ret;exact⟨rfl,h⟩
def iu (name target:ag):ag×Bool:=
 if name.length<=(Mk.bj 37 target).length+(bQ 37 target).length then([],false)
 else(Lib.trimSuffix (Lib.trimPrefix name (Mk.bj 37 target)) (bQ 37 target),Lib.hasPrefix name (Mk.bj 37 target)&&Lib.hasSuffix (Lib.trimPrefix name (Mk.bj 37 target)) (bQ 37 target))
theorem By (s a:ag):(Lib.trimPrefix s a).length<=s.length:=by
 unfold Lib.trimPrefix;split
 ·rw[UM];omega
 ·exact TD _
theorem Lh (name target:ag)(w:ax)(p:c_ w)(B:name.length<=1073741824)(D:target.length<=1073741824)(z:(Mk.bj 37 target).length<=1073741824)(x:(bQ 37 target).length<=1073741824):
 Calls prog 273 #[.string ⟨name.toArray⟩,.string ⟨target.toArray⟩] w λe c=>e= .returned (.tuple #[.string ⟨(iu name target).1.toArray⟩,.bool (iu name target).2])/\Below w.heap.size w c :=by
 have h:Hid (Calls prog 160 #[.string ⟨target.toArray⟩,.string ⟨#[37]⟩] w λe c=>e= .returned (.tuple #[.string ⟨(Mk.bj 37 target).toArray⟩,.string ⟨(bQ 37 target).toArray⟩,.bool (Mk.has 37 target)])/\Below w.heap.size w c):=tF 37 ⟨target.toArray⟩ w (by show target.length<=_;omega) p;have g:Hid (iu name target=if name.length<=(Mk.bj 37 target).length+(bQ 37 target).length then([],false)
 else(Lib.trimSuffix (Lib.trimPrefix name (Mk.bj 37 target)) (bQ 37 target),Lib.hasPrefix name (Mk.bj 37 target)&&Lib.hasSuffix (Lib.trimPrefix name (Mk.bj 37 target)) (bQ 37 target))):=rfl
 generalize iu name target=S at*;generalize Mk.bj 37 target=A at*;generalize bQ 37 target=E at*;have j:Hid (∀w,Calls prog 126 #[.string ⟨name.toArray⟩,.string ⟨A.toArray⟩] w λe c=>e= .returned (.tuple #[.string ⟨(Lib.trimPrefix name A).toArray⟩,.bool (Lib.hasPrefix name A)])/\c =w):=λw=>Any.strings_CutPrefix Tryz.Hl ⟨name.toArray⟩ ⟨A.toArray⟩ w;have y:=By name A;generalize Lib.trimPrefix name A=b at*;generalize Lib.hasPrefix name A=k at*;have m:Hid (∀w,Calls prog 291 #[.string ⟨b.toArray⟩,.string ⟨E.toArray⟩] w λe c=>e= .returned (.tuple #[.string ⟨(Lib.trimSuffix b E).toArray⟩,.bool (Lib.hasSuffix b E)])/\c =w):=λw=>Any.strings_CutSuffix Tryz.Q2 ⟨b.toArray⟩ ⟨E.toArray⟩ w (by show b.length<=_;omega);generalize Lib.trimSuffix b E=s at*;generalize Lib.hasSuffix b E=r at*;have F:(ByteArray.mk name.toArray).size=name.length:=rfl;have C:(ByteArray.mk A.toArray).size=A.length:=rfl;have H:(ByteArray.mk E.toArray).size=E.length:=rfl;have G:(name.length:Int)<=1073741824:=by omega
 have t:(A.length:Int)<=1073741824:=by omega
 have v:(E.length:Int)<=1073741824:=by omega
 by_cases l:name.length<=A.length+E.length
 ·have q:(name.length:Int)<=(A.length:Int)+(E.length:Int):=by omega
  have f:Hid (S=([],false)):=by show S=_;rw[g.u,TP l]
  clear g;go_enter func273,ntmps273;go_wp2_with (first|(go_at_call 160;refine h.u.mono ?_;rintro e i ⟨rfl,a⟩;have d:=aB a;clear a)|fail)
  go_ret2
  exact⟨by rw[f.u];rfl,d.u⟩
 ·have q:¬(name.length:Int)<=(A.length:Int)+(E.length:Int):=by omega
  have f:Hid (S=(s,k&&r)):=by show S=_;rw[g.u,TJ l]
  clear g;cases k with
  |true=>
   go_enter func273,ntmps273;go_wp2_with (first|(go_at_call 160;refine h.u.mono ?_;rintro e i ⟨rfl,a⟩;have d:=aB a;clear a)|(go_at_call 126;refine(j.u _).mono ?_;rintro e o ⟨rfl,rfl⟩)|(go_at_call 291;refine(m.u _).mono ?_;rintro e n ⟨rfl,rfl⟩)|fail)
   go_ret2
   exact⟨by rw[f.u];rfl,d.u⟩
  |false=>
   go_enter func273,ntmps273;go_wp2_with (first|(go_at_call 160;refine h.u.mono ?_;rintro e i ⟨rfl,a⟩;have d:=aB a;clear a)|(go_at_call 126;refine(j.u _).mono ?_;rintro e o ⟨rfl,rfl⟩)|(go_at_call 291;refine(m.u _).mono ?_;rintro e n ⟨rfl,rfl⟩)|fail)
   go_ret2
   exact⟨by rw[f.u];rfl,d.u⟩
structure A7 (W:ax)(stem:ag)(aF:List ag)(i:Nat)(v:ay)(wr:ax):Prop where
 aL:Below W.heap.size W wr
 bI:wr.ownsRow W.heap.size 9 1 v i ((aF.take i).map λn=>aK (dJ n stem))
theorem J1 (c:List ag)(f:ag)(a:Option Addr)(cap b s:Nat)(W:ax)(D:0<c.length->a=some ⟨b,s,none⟩/\b<W.heap.size/\dV W b s c)(r:c_ W)(hn:c.length<=1073741824)(w:∀n∈c,n.length<=4294967200/\n.length+Lib.countB ⟨n.toArray⟩ ⟨#[37]⟩*f.length<=140737488355328):
 Calls prog 241 #[.slice a c.length cap,.string ⟨f.toArray⟩] W λe m=>∃v,e= .returned v/\m.ownsRow W.heap.size 9 1 v c.length (c.map λn=>aK (dJ n f))/\Below W.heap.size W m :=by
 obtain⟨J,I,X,N,S⟩:=UF Tryz.kJ;have Q:=aB D;have T:=aB w;have L:=aB r;have B:Hid (A7 W f c 0 (.slice none 0 0) W):=⟨TF _ _,Uk _ _ _ _⟩;clear D w r;go_enter func241,ntmps241;go_wp2_with fail
 go_loopw [5,10] (λv l wr=>∃d:Nat,l= .int .i64 d/\d<=c.length/\Hid (A7 W f c d v wr)) (λ_ l _=>c.length-aS l)
 case atStart=>exact⟨0,rfl,by omega,B⟩
 case round=>
  clear B;obtain⟨d,rfl,aa,g⟩:=hrel;by_cases k:d<c.length
  ·have E:(d:Int)<c.length:=by omega
   have Z:(0:Int)<=(d:Int):=by omega
   obtain⟨rfl,G,A⟩:=Q.u (by omega);have cn:=A.aL g.u.aL G d c[d] (TH k);obtain⟨O,P⟩:=T.u c[d] (TV k);have t:(c.take (d+1)).map (λn=>aK (dJ n f))=(c.take d).map (λn=>aK (dJ n f))++[aK (dJ c[d] f)]:=by rw[TW k,T'];rfl
   have H:=aB t;clear A t;generalize c[d]=x at*;have z:=aB (E5 x f wr (L.u.aE g.u.aL) O P);have M:=g.u.aL.size;unfold aK at*;go_wp2_with (first|(go_at_call 187;refine z.u.mono ?_;clear z;rintro e w1 ⟨rfl,i⟩;have R:=aB (g.u.aL.trans (i.mono M));have C:=aB (bT g.u.bI (λq h=>i.block q (g.u.bI.lt q h).2));have Y:=i.size;clear i)|(at_builtin;refine Uu _ rfl (.tmp 14) (.tmp 18) 30 rfl W.heap.size 9 J (.string ⟨#[]⟩) 1 16 UC I X N S rfl (by decide) _ d _ rfl (T_ C.u _) ⟨_,0,none⟩ 1 1 [.string ⟨(dJ x f).toArray⟩] rfl rfl (gw _ _ [_]) (uG _) (by unfold maxLen;omega) (by omega) (by rw[TM];omega) ?_;intro v6 V y o _ _;have F:Hid (A7 W f c (d+1) v6 V):=⟨(R.u.alloc (by omega) (.cells #[.string ⟨(dJ x f).toArray⟩] 9)).trans ((Tn.grown (p:=λq=>W.heap.size<=q) o (λq h=>(C.u.lt q h).1)).aL (by rw[TM];omega) (λq h=>h)),by have:=H.u;unfold aK;rw[this];exact y⟩;clear y o)|fail)
   go_roundw
   case rel=>exact⟨d+1,by go_num,by omega,F⟩
   case measure=>simp only[aS];omega
  ·have K:d=c.length:=by omega
   subst K;have E:¬(c.length:Int)<c.length:=by omega
   have j:=g.u.bI;rw[Us] at j;have U:=aB j;clear j;go_wp2_with fail
   go_ret;exact⟨_,rfl,U.u,g.u.aL⟩
def tm (b:Option Nat):ay:=match b with|some a=> .int .i64 (a:Int)|none=> .int .i64 (-1)
structure A3 (W:ax)(f:ag->Bool)(xs:List ag)(i:Nat)(wr:ax):Prop where
 aL:Below W.heap.size W wr
 no:∀x∈xs.take i,f x=false
theorem JB (c:List ag)(a:Option Addr)(cap b r i:Nat)(A:Array ay)(f:ag->Bool)(W:ax)(S:∀args w,(callFunc i args).run prog w= .ok (.enter i args) w)(v:∀w,Below W.heap.size W w->∀x∈c,Calls prog i (#[.string ⟨x.toArray⟩]++A) w λe K=>e= .returned (.bool (f x))/\Below w.heap.size w K)(C:0<c.length->a=some ⟨b,r,none⟩/\b<W.heap.size/\dV W b r c)(R:c.length<=1073741824):
 Calls prog 264 #[.slice a c.length cap,.func (.func i) #[] A] W λe E=>e= .returned (tm (c.findIdx? f))/\Below W.heap.size W E :=by
 have L:=aB C;have N:=aB v;have z:Hid (A3 W f c 0 W):=⟨TF _ _,by simp⟩;clear C v;go_enter func264,ntmps264;go_wp2_with fail
 go_loopw [8] (λq wr=>∃d:Nat,q= .int .i64 d/\d<=c.length/\Hid (A3 W f c d wr)) (λq _=>c.length-aS q)
 case atStart=>exact⟨0,rfl,by omega,z⟩
 case round=>
  clear z;obtain⟨d,rfl,Q,g⟩:=hrel;by_cases l:d<c.length
  ·have F:(d:Int)<c.length:=by omega
   have O:(0:Int)<=(d:Int):=by omega
   obtain⟨rfl,G,y⟩:=L.u (by omega);have H:=y.aL g.u.aL G d c[d] (TH l);have m:=aB (N.u wr g.u.aL c[d] (TV l));have t:=g.u.aL.size;have o:Hid (f c[d]=true->c.findIdx? f=some d):=λe=>by rw[Up];refine⟨l,e,λB P=> ?_⟩;have:=g.u.no c[B] (Y_.2 ⟨B,by rw[Um];omega,by rw[YQ]⟩);rw[this];decide
   have n:Hid (f c[d]=false->∀x∈c.take (d+1),f x=false):=λe x k=>by
    rw[TW l] at k;rcases T4.1 k with h1|h1
    ·exact g.u.no x h1
    ·rw[TL] at h1;subst h1;exact e
   clear y;unfold aK at H;generalize c[d]=x at*;cases h:f x with
   |true=>
    have p:=aB (o.u h);rw[h] at m;clear o n h;go_wp2_with (first|(go_at_fn i;refine m.u.mono ?_;rintro e s ⟨rfl,j⟩;have M:=aB (g.u.aL.trans (j.mono t));clear j)|fail)
    go_ret;exact⟨by rw[p.u];rfl,M.u⟩
   |false=>
    have p:=aB (n.u h);rw[h] at m;clear o n h;go_wp2_with (first|(go_at_fn i;refine m.u.mono ?_;rintro e s ⟨rfl,j⟩;have I:Hid (A3 W f c (d+1) s):=⟨g.u.aL.trans (j.mono t),p.u⟩;clear j)|fail)
    go_roundw
    case rel=>exact⟨d+1,by go_num,by omega,I⟩
    case measure=>simp only[aS];omega
  ·have J:d=c.length:=by omega
   subst J;have F:¬(c.length:Int)<c.length:=by omega
   have D:Hid (c.findIdx? f=none):=by show _=_;rw[UO];exact λx k=>g.u.no x (by rw[Us];exact k)
   go_wp2_with fail
   go_ret;exact⟨by rw[D.u];rfl,g.u.aL⟩
theorem Qw (a:List ag)(f:ag->Bool):a.any f=(a.findIdx? f).isSome:=by
 cases h:a.findIdx? f with
 |none=>rw[UO] at h;rw[Option.isSome_none,VG];exact λx d=>by rw[h x d];decide
 |some e=>rw[Up] at h;obtain⟨c,b,-⟩:=h;rw[Option.isSome_some,VD];exact⟨_,TV c,b⟩
theorem yb (d:List ag)(a:Option Addr)(cap b j i:Nat)(l:Array ay)(f:ag->Bool)(W:ax)(t:∀args w,(callFunc i args).run prog w= .ok (.enter i args) w)(p:∀w,Below W.heap.size W w->∀x∈d,Calls prog i (#[.string ⟨x.toArray⟩]++l) w λe r=>e= .returned (.bool (f x))/\Below w.heap.size w r)(v:0<d.length->a=some ⟨b,j,none⟩/\b<W.heap.size/\dV W b j d)(s:d.length<=1073741824):
 Calls prog 221 #[.slice a d.length cap,.func (.func i) #[] l] W λe n=>e= .returned (.bool (d.any f))/\Below W.heap.size W n :=by
 have c:=JB d a cap b j i l f W t p v s;rw[Qw];cases h:d.findIdx? f with
 |none=>
  rw[h] at c;unfold tm at c;have k:=aB c;clear c;go_enter func221,ntmps221;go_wp2_with (first|(go_at_call 264;refine k.u.mono ?_;rintro e o ⟨rfl,g⟩;have m:=aB g;clear g)|fail)
  go_ret;exact⟨rfl,m.u⟩
 |some q=>
  rw[h] at c;unfold tm at c;have k:=aB c;have y:(0:Int)<=(q:Int):=by omega
  clear c;go_enter func221,ntmps221;go_wp2_with (first|(go_at_call 264;refine k.u.mono ?_;rintro e o ⟨rfl,g⟩;have m:=aB g;clear g)|fail)
  go_ret;exact⟨by simp,m.u⟩
def kp (targets a:List ag):Bool:=
 if targets.length=0\/targets.any iT=true\/a.any iT=true then false
 else if targets.any cS=true then decide (targets.length=1) else !(a.any cS)
def r_ (W:ax)(c:List ag)(a:Option Addr):Prop:=∃b d,0<c.length->a=some ⟨b,d,none⟩/\b<W.heap.size/\dV W b d c
variable {d:ax}{c:List ag}
theorem r_.aE {W:ax}{a:Option Addr}(h:r_ W c a)(g:Below W.heap.size W d):r_ d c a:=by obtain⟨b,i,f⟩:=h;exact⟨b,i,λe=>⟨(f e).1,T7 (f e).2.1 g.size,(f e).2.2.aL g (f e).2.1⟩⟩
theorem DQ (c:List ag)(a:Option Addr)(cap:Nat)(W:ax)(h:r_ W c a)(i:c.length<=1073741824):
 Calls prog 221 #[.slice a c.length cap,.func (.func 226) #[] #[]] W λe d=>e= .returned (.bool (c.any iT))/\Below W.heap.size W d :=by obtain⟨b,g,f⟩:=h;exact yb c a cap b g _ _ iT W (Yi func226 (by kernel_rfl) rfl) (λw _ x _=>(JI x w).mono (λe j h=>⟨h.1,h.2▸TF _ _⟩)) f i
theorem FD (c:List ag)(a:Option Addr)(cap:Nat)(W:ax)(h:r_ W c a)(g:c_ W)(k:c.length<=1073741824)(d:∀x∈c,x.length<=4294967200):
 Calls prog 221 #[.slice a c.length cap,.func (.func 227) #[] #[]] W λe f=>e= .returned (.bool (c.any cS))/\Below W.heap.size W f :=by obtain⟨b,j,i⟩:=h;exact yb c a cap b j _ _ cS W (Yi func227 (by kernel_rfl) rfl) (λw l x m=>(BF x w (g.aE l) (d x m)).mono (λe n h=>⟨h.1,h.2▸TF _ _⟩)) i k
theorem Jm (b d:List ag)(a c:Option Addr)(v y:Nat)(W:ax)(B:r_ W b a)(A:r_ W d c)(w:c_ W)(I:b.length<=1073741824)(J:d.length<=1073741824)(G:∀x∈b,x.length<=4294967200)(E:∀x∈d,x.length<=4294967200):
 Calls prog 183 #[.slice a b.length v,.slice c d.length y] W λe g=>e= .returned (.bool (kp b d))/\Below W.heap.size W g :=by
 have h:Hid (kp b d=if b.length=0\/b.any iT=true\/d.any iT=true then false
 else if b.any cS=true then decide (b.length=1) else !(d.any cS)):=rfl
 have k:=aB (DQ b a v W B I);have p:=aB (λg (m:Below W.heap.size W g)=>DQ d c y g (A.aE m) J);have t:=aB (λg (m:Below W.heap.size W g)=>FD b a v g (B.aE m) (w.aE m) I G);have H:=aB (λg (m:Below W.heap.size W g)=>FD d c y g (A.aE m) (w.aE m) J E);have M:=aB (TF W.heap.size W);clear B A w G E;generalize kp b d=S at*;generalize b.any iT=T at*;generalize d.any iT=R at*;generalize b.any cS=Q at*;generalize d.any cS=P at*;generalize b.length=n at*;by_cases s:n=0
 ·have j:Hid (S=false):=by show S=_;rw[h.u,TP (.inl s)]
  have N:(((n:Nat):Int)==0)=true:=by rw[s];rfl
  clear h;go_enter Zr,Y7;go_wp2_with fail
  go_ret;exact⟨by rw[j.u];rfl,M.u⟩
 have N:(((n:Nat):Int)==0)=false:=by rw[TQ];omega
 cases T with
 |true=>
  have j:Hid (S=false):=by show S=_;rw[h.u,TP (.inr (.inl rfl))]
  clear h;go_enter Zr,Y7;go_wp2_with (first|(go_at_call 221;refine k.u.mono ?_;clear k;rintro e z ⟨rfl,f⟩;have i:=aB f;clear f)|fail)
  go_ret;exact⟨by rw[j.u];rfl,i.u⟩
 |false=>
  cases R with
  |true=>
   have j:Hid (S=false):=by show S=_;rw[h.u,TP (.inr (.inr rfl))]
   clear h;go_enter Zr,Y7;go_wp2_with (first|(go_at_call 221;refine k.u.mono ?_;clear k;rintro e z ⟨rfl,f⟩;have i:=aB f;clear f)|(go_at_call 221;refine(p.u _ i.u).mono ?_;clear p;rintro e D ⟨rfl,l⟩;have o:=aB (i.u.tr l);clear l)|fail)
   go_ret;exact⟨by rw[j.u];rfl,o.u⟩
  |false=>
   cases Q with
   |true=>
    have j:Hid (S=decide (n=1)):=by show S=_;rw[h.u,TJ (by simp[s]),TP rfl]
    clear h;have C:decide ((n:Int)=1)=decide (n=1):=by rw[Xn];omega
    have L:=aB C;clear C;go_enter Zr,Y7;go_wp2_with (first|(go_at_call 221;refine k.u.mono ?_;clear k;rintro e z ⟨rfl,f⟩;have i:=aB f;clear f)|(go_at_call 221;refine(p.u _ i.u).mono ?_;clear p;rintro e D ⟨rfl,l⟩;have o:=aB (i.u.tr l);clear l)|(go_at_call 221;refine(t.u _ o.u).mono ?_;clear t;rintro e K ⟨rfl,q⟩;have r:=aB (o.u.tr q);clear q)|fail)
    go_ret;exact⟨by rw[j.u,<-L.u];rfl,r.u⟩
   |false=>
    have j:Hid (S= !P):=by show S=_;rw[h.u,TJ (by simp[s]),TJ (by decide)]
    clear h;go_enter Zr,Y7;go_wp2_with (first|(go_at_call 221;refine k.u.mono ?_;clear k;rintro e z ⟨rfl,f⟩;have i:=aB f;clear f)|(go_at_call 221;refine(p.u _ i.u).mono ?_;clear p;rintro e D ⟨rfl,l⟩;have o:=aB (i.u.tr l);clear l)|(go_at_call 221;refine(t.u _ o.u).mono ?_;clear t;rintro e K ⟨rfl,q⟩;have r:=aB (o.u.tr q);clear q)|(go_at_call 221;refine(H.u _ r.u).mono ?_;clear H;rintro e U ⟨rfl,F⟩;have O:=aB (r.u.tr F);clear F)|fail)
    go_ret;exact⟨by rw[j.u];first|rfl|simp,O.u⟩
theorem Bi {c:Program}(w:ax){e:Array Oper}{h:List Oper}{b:Oper}{a:Act}{Q:Exit->Act->ax->Prop}(k:b.guard=none)(s x:Operand)(g u:TypeId)(j:b.op=Op.call {callee:=Callee.builtin Builtin.append,args:= #[s,x],argTypes:= #[g,u]})(v1 d:ay)(n:a.eval s=v1)(o:a.eval x=d)(i :ay)(f :ax)(p:(Builtin.append_ #[g,u] b.type #[v1,d]).run c w= .ok i f)(m:wpList c e Q h (a.put b.dst i) f):wpList c e Q (b::h) a w:=by refine Ym k λK l=> ?_;unfold Oper.wp;simp[execOp,j,resolve,invoke,builtin,n,o,p,Result.andThen];exact l _ _ m
theorem Ow (n:Nat)(w:ax)(C:n<=1073741824):
 Calls prog 288 #[.slice none 0 0,.int .i64 n] w λe f=>∃v,e= .returned v/\f.ownsRow w.heap.size 9 1 v 0 []/\Below w.heap.size w f :=by
 obtain⟨b,m,q,B,g⟩:=UF Tryz.kJ;have A:¬((n:Int)<0):=by omega
 by_cases p:n=0
 ·subst p;go_enter func288,ntmps288;go_wp2_with fail
  go_ret;exact⟨_,rfl,Uk _ _ _ _,TF _ _⟩
 ·have d:=run_firstCells_none (P:=prog) w.drew b.size 0 0 0;have i:Builtin.nextslicecap (0+n) 0*b.bytes<=281474976710656:=growslice_fits (by omega) (by rw[g];omega);have c:∀a,(Builtin.append_ #[30,3] a #[.slice none 0 0,.int .i64 (n:Int)]).run prog w= .ok (.slice (some ⟨w.heap.size,0,none⟩) n (grownCap w n 0 9)) (w.drew.alloc (.cells (Builtin.zeroCells (Value.string ⟨#[]⟩).cells n++Builtin.zeroCells (Value.string ⟨#[]⟩).cells (grownCap w n 0 9-n)) 9)):=λa=>by have h:=Lib.run_append_grow_zeros (P:=prog) w 30 3 a 9 b _ .i64 .i64 UC UJ m q none 0 0 [] d n (by omega) (by omega) (by omega) (by omega) (by rw[g];omega) i;simpa using h
  have s:=grownCap_ge w n 0 9;have j:=grownCap_le_maxLen w n 0 9 (by unfold maxLen;omega);have o:=aB (World.ownsRow_made (base:=w.heap.size) (e:=9) (size:=1) w.drew (Builtin.zeroCells (Value.string ⟨#[]⟩).cells n++Builtin.zeroCells (Value.string ⟨#[]⟩).cells (grownCap w n 0 9-n)) (grownCap w n 0 9) ak j (by rw[Array.size_append,size_zeroCells,size_zeroCells,show (Value.string ⟨#[]⟩).cells.size=1 from rfl];omega));have l:=aB ((TF w.heap.size w).drew.alloc ak (.cells (Builtin.zeroCells (Value.string ⟨#[]⟩).cells n++Builtin.zeroCells (Value.string ⟨#[]⟩).cells (grownCap w n 0 9-n)) 9));unfold maxLen at j;generalize (w.drew.alloc (.cells (Builtin.zeroCells (Value.string ⟨#[]⟩).cells n++Builtin.zeroCells (Value.string ⟨#[]⟩).cells (grownCap w n 0 9-n)) 9))=W' at*;generalize grownCap w n 0 9=G at*;have t:(0:Int)<(n:Int):=by omega
  have z:(n:Int)<=1073741824:=by omega
  have r:(0:Int)<=(G:Int):=by omega
  have x:IntKind.wrap .i64 ((n:Int)-0)=(n:Int):=by rw[Int.sub_zero];exact wrap_small (by omega) (by omega)
  have y:IntKind.wrap .i64 (n:Int)=(n:Int):=wrap_small (by omega) (by omega);have k:=aB c;clear d i c;go_enter func288,ntmps288;go_wp2_with (first|(at_builtin;refine Bi _ rfl (.tmp 20) (.tmp 21) 30 3 rfl _ _ rfl rfl _ _ (k.u _) ?_)|fail)
  go_ret;exact⟨_,rfl,o.u,l.u⟩
theorem Mw (c b a:Nat):(⟨c,b,none⟩:Addr).add a=⟨c,b+a,none⟩:=by unfold Addr.add;split<;>simp_all
def qF (W:ax)(v:ay)(x:List ag):Prop:=(v= .slice none 0 0/\x=[])\/∃b a c,v= .slice (some ⟨b,a,none⟩) x.length c/\b<W.heap.size/\dV W b a x
theorem qF.aE {W:ax}{v:ay}{x:List ag}(h:qF W v x)(a:Below W.heap.size W d):qF d v x:=by
 rcases h with h|⟨b,o,c,h1,h2,h3⟩
 ·exact .inl h
 ·exact .inr ⟨b,o,c,h1,T7 h2 a.size,h3.aL a h2⟩
theorem qF.sh {W:ax}{v:ay}{x:List ag}(h:qF W v x):∃a c,v= .slice a x.length c:=by
 rcases h with⟨d,e⟩|⟨b,g,c,d,e,f⟩
 ·subst e;exact⟨none,0,d⟩
 ·exact⟨_,c,d⟩
def IV (W:ax)(b d:Nat)(c:List (List ag)):Prop:=∀(a:Nat) (x:List ag),c[a]?=some x->∃v,W.cell? ⟨b,d+a,none⟩=some v/\qF W v x
structure x7 (W:ax)(ls:List (List ag))(i:Nat)(v:ay)(wr:ax):Prop where
 aL:Below W.heap.size W wr
 bI:wr.ownsRow W.heap.size 9 1 v (ls.take i).flatten.length ((ls.take i).flatten.map aK)
theorem Gf (a:List (List ag))(b:Nat):(a.take b).flatten.length<=a.flatten.length:=by
 have:a.flatten=(a.take b).flatten++(a.drop b).flatten:=by rw[<-Zl,VW]
 rw[this,TE];omega
theorem DM (a:List (List ag))(b:Nat)(h:b<a.length):(a.take (b+1)).flatten=(a.take b).flatten++a[b]:=by rw[TW h,Zl];simp
def ld (a:List (List ag))(b:Nat):Nat:=(a.take b).flatten.length
theorem QW (a:List (List ag)):ld a a.length=a.flatten.length:=by unfold ld;rw[Us]
theorem PE (x:List ag):∀u∈x.map aK,u.oneCell' =true:=λu a=>by obtain⟨y,-,rfl⟩:=Uc.1 a;rfl
theorem K6 (c:List (List ag))(a:Option Addr)(cap b E:Nat)(W:ax)(J:0<c.length->a=some ⟨b,E,none⟩/\b<W.heap.size/\IV W b E c)(hn:c.length<=1073741824)(hl:c.flatten.length<=1073741824):
 Calls prog 267 #[.slice a c.length cap] W λe K=>∃v,e= .returned v/\K.ownsRow W.heap.size 9 1 v c.flatten.length (c.flatten.map aK)/\Below W.heap.size W K :=by
 obtain⟨H,O,ab,aj,ak⟩:=UF Tryz.kJ;have G:=aB J;have T:=aB (Ow (ld c c.length) W (by rw[QW];exact hl));clear J;go_enter func267,ntmps267;go_wp2_with fail
 go_loopw [3,11] (λsv h wr=>∃d:Nat,h= .int .i64 d/\d<=c.length/\sv= .int .i64 (ld c d:Nat)/\wr=W) (λ_ h _=>c.length-aS h)
 case atStart=>exact⟨0,rfl,by omega,rfl,rfl⟩
 case round=>
  obtain⟨d,rfl,ah,rfl,rfl⟩:=hrel;by_cases k:d<c.length
  ·have t1:(d:Int)<c.length:=by omega
   have t0:(0:Int)<=(d:Int):=by omega
   obtain⟨rfl,I,l⟩:=G.u (by omega);obtain⟨v,D,r⟩:=l d c[d] (TH k);obtain⟨a1,Q,rfl⟩:=r.sh;have o:=Gf c (d+1);have i:=DM c d k;have s:ld c (d+1)=ld c d+c[d].length:=by unfold ld;rw[i,TE]
   have aa:=aB s;have af :ld c (d+1)<=c.flatten.length:=o;rw[s] at af;clear l o i s r;generalize c[d].length=m at*;generalize ld c d=n at*;have i1:(n:Int)+(m:Int)<=1073741824:=by omega
   have i2:¬(n:Int)+(m:Int)<0:=by omega
   go_wp2_with fail
   go_roundw
   case rel=>exact⟨d+1,by go_num,by omega,by rw[aa.u];go_num,by first|rfl|trivial⟩
   case measure=>simp only[aS];omega
  ·have F:d=c.length:=by omega
   subst F;have t1:¬(c.length:Int)<c.length:=by omega
   go_wp2_with (first|(go_at_call 288;refine T.u.mono ?_;clear T;rintro e X ⟨v1,rfl,M,A⟩;have C:Hid (x7 wr c 0 v1 X):=⟨A,M⟩;clear M A)|fail)
   obtain⟨g,L⟩:∃g,g=wr:=⟨_,rfl⟩;rw[<-L] at C G;go_loopw [6,27] (λv h wi=>∃d:Nat,h= .int .i64 d/\d<=c.length/\Hid (x7 g c d v wi)) (λ_ h _=>c.length-aS h)
   case atStart=>exact⟨0,rfl,by omega,C⟩
   case round=>
    clear C;obtain⟨d,rfl,ah,f⟩:=hrel;by_cases k:d<c.length
    ·have u1:(d:Int)<c.length:=by omega
     have u0:(0:Int)<=(d:Int):=by omega
     obtain⟨rfl,I,l⟩:=G.u (by omega);obtain⟨v,D,r⟩:=l d c[d] (TH k);have al :=(f.u.aL.cell (p:=⟨b,E+d,none⟩) I).trans D;have ai :=r.aE f.u.aL;have o:=Gf c (d+1);have i:=DM c d k;have ad:=f.u.aL.size;have U:=aB i;have s:(c.take d).flatten.length+c[d].length<=1073741824:=by rw[i,TE] at o;omega
     clear l o i r D;generalize c[d]=x at*;rcases ai with⟨rfl,rfl⟩|⟨b1,o1,Q,rfl,A,N⟩
     ·have Y:Hid (x7 g c (d+1) u6 wr):=⟨f.u.aL,by rw[U.u,Vs];exact f.u.bI⟩;have HR:=aB (run_append_owned_none (P:=prog) (w:=wr) g.heap.size 30 30 9 H 1 UC O u6 _ _ f.u.bI);go_wp2_with (first|(at_builtin;refine Bi _ rfl (.tmp 31) (.tmp 32) 30 30 rfl _ _ rfl rfl _ _ HR.u ?_)|fail)
      go_roundw
      case rel=>exact⟨d+1,by go_num,by omega,Y⟩
      case measure=>simp only[aS];omega
     ·have ac:=aB N;clear N;go_wp2_with (first|(at_builtin;refine Uu _ rfl (.tmp 31) (.tmp 32) 30 rfl g.heap.size 9 H (.string ⟨#[]⟩) 1 16 UC O ab aj ak rfl (by decide) _ _ _ rfl f.u.bI ⟨b1,o1,none⟩ x.length Q (x.map aK) rfl (by rw[TR];omega) (λV u j=>by rw[Mw];rw[UG] at j;cases B:x[V]? with|none=>(rw [B] at j;cases j)|some y=>(rw [B] at j;cases j;exact ac.u V y B)) (PE x) (by unfold maxLen;omega) (by omega) (by omega) ?_;intro v6 w6 R S _ _;have ae:Hid (x7 g c (d+1) v6 w6):=⟨f.u.aL.trans ((Tn.grown (p:=λq=>g.heap.size<=q) S (λq t=>(f.u.bI.lt q t).1)).aL ad (λq t=>t)),by rw[U.u,TE,T'];exact R⟩;clear R S)|fail)
      go_roundw
      case rel=>exact⟨d+1,by go_num,by omega,ae⟩
      case measure=>simp only[aS];omega
    ·have F:d=c.length:=by omega
     subst F;have u1:¬(c.length:Int)<c.length:=by omega
     have z:=f.u.bI;rw[Us,List.length_flatten,List.map_flatten] at z;have HO:=aB z;have Z:=aB f.u.aL;clear z f;subst L;go_wp2_with fail
     go_ret;exact⟨_,rfl,HO.u,Z.u⟩
def bJ:List ag->List ag->List ag
 |[],a=>a
 |x::b,a=>if x∈a then bJ b a else bJ b (a++[x])
variable {a b:Nat}
theorem F4 {w:ax}{B e size n:Nat}{v:ay}{b:List ay}(h:w.ownsRow B e size v n b)(c:a <=B):w.ownsRow a e size v n b:=by
 refine⟨h.1,?_⟩;rcases h.2 with h1|⟨g,cap,cur,h1,h2,h3⟩
 ·exact .inl h1
 ·exact .inr ⟨g,cap,cur,h1,TT c h2,h3⟩
structure qC (w2:ax)(sb:Nat)(all:List ag)(i:Nat)(aC:List ag)(v:ay)(wr:ax):Prop where
 tn:Tn (λk=>k=sb) w2 wr
 seen:bC wr sb (dm aC)
 bI:wr.ownsRow w2.heap.size 9 1 v aC.length (aC.map aK)
 kZ:bJ (all.drop i) aC=bJ all []
 len:aC.length<=i
theorem qC.skip {wr w4:ax}{all:List ag}{v:ay}(h:qC d b all a c v wr)(g:a<all.length)(i:all[a]∈c)(e:Below wr.heap.size wr w4):qC d b all (a+1) c v w4:=⟨h.tn.trans (Tn.aE e),h.seen.aE e,bT h.bI (λk f=>e.block k (h.bI.lt k f).2),by have:=h.kZ;rw[T2 g,bJ,TP i] at this;exact this,by have:=h.len;omega⟩
theorem qC.add {wr w4 w6:ax}{all:List ag}{v v6:ay}{o o' :Obj}(h:qC d a all b c v wr)(t:b<all.length)(i:all[b]∉c)(n:a<d.heap.size)(j:bC w4 a (eK (dm c) all[b] (.agg #[])))(s:(wr.alloc o).mapTurned w4 a)(f:(w4.alloc o').grownBy w6 v.ownBlock)(r:w6.ownsRow d.heap.size 9 1 v6 (c.length+1) (c.map aK++[aK all[b]])):qC d a all (b+1) (c++[all[b]]) v6 w6:=by have q:=(TF wr.heap.size wr).alloc ak o;have g:=lx (p:=λk=>k=a) s rfl;have l:=(TF w4.heap.size w4).alloc ak o';have m:some a≠v.ownBlock:=dD h.bI n;have u:=g.size;have w:(wr.alloc o).heap.size=wr.heap.size+1:=TM _ _;rw[Am i] at j;refine⟨(((h.tn.trans (Tn.aE q)).trans g).trans (Tn.aE l)).tail (Tn.grown (p:=λk=>d.heap.size<=k) f (λk e=>(h.bI.lt k e).1)) (λk e=>e),(j.aE l).kept f m,by rw[TE,T'];exact r,?_,by rw[TE,T6];have:=h.len;omega⟩;have:=h.kZ;rw[T2 t,bJ,TJ i] at this;exact this
theorem zH (h:List (List ag))(a:Option Addr)(cap b f:Nat)(W:ax)(o:0<h.length->a=some ⟨b,f,none⟩/\b<W.heap.size/\IV W b f h)(hn:h.length<=1073741824)(hl:h.flatten.length<=1073741824):
 Calls prog 230 #[.slice a h.length cap] W λe M=>∃v,e= .returned v/\M.ownsRow W.heap.size 9 1 v (bJ h.flatten []).length ((bJ h.flatten []).map aK)/\Below W.heap.size W M :=by
 obtain⟨S,ae,aa,af,am⟩:=UF Tryz.kJ;have ab:= @XN prog;have m:=(TF W.heap.size W).alloc ak (.map #[] 0);have au:(W.alloc (.map #[] 0)).heap.size=W.heap.size+1:=TM _ _;have O:=aB (K6 h a cap b f (W.alloc (.map #[] 0)) (λe=>⟨(o e).1,T7 (o e).2.1 m.size,λao x R=>by obtain⟨v,h1,h2⟩:=(o e).2.2 ao x R;exact⟨v,(m.cell (p:=⟨b,_,none⟩) (o e).2.1).trans h1,h2.aE m⟩⟩) hn hl);have X:=aB (bC.jV W);have HQ:=aB m;generalize ar:h.flatten=all at*;clear o m;go_enter func230,ntmps230;go_wp2_with (first|(go_at_call 267;refine O.u.mono ?_;clear O;rintro e q ⟨vC,rfl,z,s⟩;obtain⟨ac,cc,rfl⟩:=gL z;have T:=aB (HQ.u.tr s);have r:=aB z;have av:=s.size;have K:Hid (qC q W.heap.size all 0 [] (.slice none 0 0) q):=⟨Tn.refl _ _,X.u.aE s,Uk _ _ _ _,rfl,TD _⟩;clear z s)|fail)
 clear ab;go_loopw [3,13] (λv C wr=>∃(c:Nat) (g:List ag),C= .int .i64 c/\c<=all.length/\Hid (qC q W.heap.size all c g v wr)) (λ_ C _=>all.length-aS C)
 case atStart=>exact⟨0,[],rfl,by omega,K⟩
 case round=>
  clear K;obtain⟨c,g,rfl,aw,d⟩:=hrel;by_cases A:c<all.length
  ·have t1:(c:Int)<all.length:=by omega
   have t0:(0:Int)<=(c:Int):=by omega
   obtain⟨aq,k2,ah,ap,az⟩:=d_ r.u (by omega);cases ah;have I:=bT r.u (λk j=>d.u.tn.block k (r.u.lt k j).2 (by have:=(r.u.lt k j).1;omega));have L:=kI I c (by simpa using A);rw[Ut] at L;have ay:=d.u.tn.size;have aA:=d.u.len;have U:Hid (∀f:Obj,bC (wr.alloc f) W.heap.size (dm g)):=λf=>d.u.seen.aE (aj wr f);have an:Hid (∀f:Obj,Below wr.heap.size wr (wr.alloc f)):=λf=>aj wr f;clear I;unfold aK at L;by_cases l:all[c]∈g
   ·have t:=aB (λi=>d.u.skip (w4:=i) A l);have n:cJ (dm g) all[c]=some (.agg #[]):=by rw[s8,TP l]
    have y:=aB n;clear n l;generalize all[c]=x at*;go_wp2_with (first|(at_lookup;refine pQ _ rfl _ _ 140 rfl 9 316 VN T0 (.agg #[]) (s6 _) W.heap.size (dm g) rfl d.u.seen x rfl (.agg #[]) y.u ?_)|fail)
    go_roundw
    case rel=>exact⟨c+1,g,by go_num,by omega,t.u _ (an.u _)⟩
    case measure=>simp only[aS];omega
   ·have t:=aB (λi D v6 (f P :Obj)=>d.u.add (w4:=i) (w6:=D) (v6:=v6) (o:=f) (o' :=P) A l (by omega));have n:cJ (dm g) all[c]=none:=by rw[s8,TJ l]
    have y:=aB n;clear n l;generalize all[c]=x at*;go_wp2_with (first|(at_lookup;refine pR _ rfl _ _ 140 rfl 9 316 VN T0 (.agg #[]) (s6 _) W.heap.size (dm g) rfl d.u.seen x rfl y.u ?_)|(at_mapUpdate;refine pT _ rfl _ _ _ 140 rfl 9 316 VN T0 W.heap.size (dm g) rfl (U.u _) (by unfold dm maxLen;rw[TR];omega) x rfl (.agg #[]) rfl ?_;intro i H G;have w:=lx (p:=λk=>k=W.heap.size) G rfl;have F:=w.size;have V:=aB (bT d.u.bI (λk j=>(w.block k (by have:=(d.u.bI.lt k j).2;rw[TM];omega) (by have:=(d.u.bI.lt k j).1;omega)).trans (VU wr _ k (d.u.bI.lt k j).2)));have aD:wr.heap.size+1<=i.heap.size:=(by rw[TM] at F;exact F);have al:=aB H;have Z:=aB G;clear H G w F)|(at_builtin;refine Uu _ rfl (.tmp 28) (.tmp 30) 30 rfl q.heap.size 9 S (.string ⟨#[]⟩) 1 16 UC ae aa af am rfl (by decide) _ g.length _ rfl (T_ V.u _) ⟨_,0,none⟩ 1 1 [.string ⟨x.toArray⟩] rfl rfl (gw _ _ [_]) (uG _) (by unfold maxLen;omega) (by omega) (by rw[TM];omega) ?_;intro v6 D N Q _ _;have ad:=aB (t.u _ _ _ _ _ al.u Z.u Q N);clear N Q)|fail)
    go_roundw
    case rel=>exact⟨c+1,_,by go_num,by omega,ad⟩
    case measure=>simp only[aS];omega
  ·have ai:c=all.length:=by omega
   subst ai;have t1:¬(all.length:Int)<all.length:=by omega
   have E:=d.u.kZ;rw[Wm] at E;have J :g=bJ all []:=E;have HO:Hid (wr.ownsRow W.heap.size 9 1 u3 (bJ all []).length ((bJ all []).map aK)):=by show World.ownsRow _ _ _ _ _ _ _;rw[<-J];exact F4 d.u.bI (by omega)
   have Y:=aB (T.u.trans (d.u.tn.aL (B:=W.heap.size) (by omega) (λk e=>by omega)));clear E J;go_wp2_with fail
   go_ret;exact⟨_,rfl,HO.u,Y.u⟩
