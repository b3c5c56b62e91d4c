/- . -/
import Derived.Test.YtjelacjggijmfaaGreatDoorYGB1
set_option maxHeartbeats 1000000
set_option maxRecDepth 100000
namespace Go.Proofs.YtjelacjggijmfaaGreatDoor
open Pl Mk Cp Proofs.Tryz
open RowKit MapKept ChangeMaps Maps
def mR (W:ax)(b e:Nat)(rs:List Nat):Prop:=∀(d:Nat) (a:Nat),rs[d]?=some a->W.cell? ⟨b,e+d,none⟩=some (.pointer (some ⟨a,0,none⟩))
variable {a k:Nat}
theorem mR.aL {W W' :ax}{b L:Nat}{rs:List Nat}(h:mR W b a rs)(g:Below L W W')(e:b<L):mR W' b a rs:=λd x f=>(g.cell (p:=⟨b,a+d,none⟩) e).trans (h d x f)
structure AX (W:ax)(f:Nat->Bool)(xs:List Nat)(i:Nat)(wr:ax):Prop where
 aL:Below W.heap.size W wr
 no:∀x∈xs.take i,f x=false
theorem Kc (xs:List Nat)(a:Option Addr)(cap b z i:Nat)(H:Array ay)(f:Nat->Bool)(W:ax)(ab:∀args w,(callFunc i args).run prog w= .ok (.enter i args) w)(C:∀w,Below W.heap.size W w->∀x∈xs,Calls prog i (#[.pointer (some ⟨x,0,none⟩)]++H) w λe Q=>e= .returned (.bool (f x))/\Below w.heap.size w Q)(J:0<xs.length->a=some ⟨b,z,none⟩/\b<W.heap.size/\mR W b z xs)(hn:xs.length<=1073741824):
 Calls prog 265 #[.slice a xs.length cap,.func (.func i) #[] H] W λe W'=>e= .returned (tm (xs.findIdx? f))/\Below W.heap.size W W' :=by
 have R:=aB J;have T:=aB C;have E:Hid (AX W f xs 0 W):=⟨TF _ _,by simp⟩;clear J C;go_enter func265,ntmps265;go_wp2_with fail
 go_loopw [8] (λy wr=>∃d:Nat,y= .int .i64 d/\d<=xs.length/\Hid (AX W f xs d wr)) (λy _=>xs.length-aS y)
 case atStart=>exact⟨0,rfl,by omega,E⟩
 case round=>
  clear E;obtain⟨d,rfl,aa,g⟩:=hrel;by_cases m:d<xs.length
  ·have L:(d:Int)<xs.length:=by omega
   have U:(0:Int)<=(d:Int):=by omega
   obtain⟨rfl,N,D⟩:=R.u (by omega);have V:=D.aL g.u.aL N d xs[d] (TH m);have n:=aB (T.u wr g.u.aL xs[d] (TV m));have B:=g.u.aL.size;have q:Hid (f xs[d]=true->xs.findIdx? f=some d):=λe=>by rw[Up];refine⟨m,e,λI Z=> ?_⟩;have:=g.u.no xs[I] (Y_.2 ⟨I,by rw[Um];omega,by rw[YQ]⟩);rw[this];decide
   have o:Hid (f xs[d]=false->∀x∈xs.take (d+1),f x=false):=λe x k=>by
    rw[TW m] at k;rcases T4.1 k with h1|h1
    ·exact g.u.no x h1
    ·rw[TL] at h1;subst h1;exact e
   clear D;generalize xs[d]=x at*;cases h:f x with
   |true=>
    have r:=aB (q.u h);rw[h] at n;clear q o h;go_wp2_with (first|(go_at_fn i;refine n.u.mono ?_;rintro e A ⟨rfl,j⟩;have S:=aB (g.u.aL.trans (j.mono B));clear j)|fail)
    go_ret;exact⟨by rw[r.u];rfl,S.u⟩
   |false=>
    have r:=aB (o.u h);rw[h] at n;clear q o h;go_wp2_with (first|(go_at_fn i;refine n.u.mono ?_;rintro e A ⟨rfl,j⟩;have O:Hid (AX W f xs (d+1) A):=⟨g.u.aL.trans (j.mono B),r.u⟩;clear j)|fail)
    go_roundw
    case rel=>exact⟨d+1,by go_num,by omega,O⟩
    case measure=>simp only[aS];omega
  ·have P:d=xs.length:=by omega
   subst P;have L:¬(xs.length:Int)<xs.length:=by omega
   have K:Hid (xs.findIdx? f=none):=by show _=_;rw[UO];exact λx k=>g.u.no x (by rw[Us];exact k)
   go_wp2_with fail
   go_ret;exact⟨by rw[K.u];rfl,g.u.aL⟩
theorem Pv (xs:List Nat)(f:Nat->Bool):xs.any f=(xs.findIdx? f).isSome:=by
 cases h:xs.findIdx? f with
 |none=>rw[UO] at h;rw[Option.isSome_none,VG];exact λx d=>by rw[h x d];decide
 |some e=>rw[Up] at h;obtain⟨b,a,-⟩:=h;rw[Option.isSome_some,VD];exact⟨_,TV b,a⟩
theorem Je (xs:List Nat)(a:Option Addr)(cap b j i:Nat)(m:Array ay)(f:Nat->Bool)(W:ax)(A:∀args w,(callFunc i args).run prog w= .ok (.enter i args) w)(q:∀w,Below W.heap.size W w->∀x∈xs,Calls prog i (#[.pointer (some ⟨x,0,none⟩)]++m) w λe y=>e= .returned (.bool (f x))/\Below w.heap.size w y)(B:0<xs.length->a=some ⟨b,j,none⟩/\b<W.heap.size/\mR W b j xs)(z:xs.length<=1073741824):
 Calls prog 223 #[.slice a xs.length cap,.func (.func i) #[] m] W λe W'=>e= .returned (.bool (xs.any f))/\Below W.heap.size W W' :=by
 have d:=Kc xs a cap b j i m f W A q B z;rw[Pv];cases h:xs.findIdx? f with
 |none=>
  rw[h] at d;unfold tm at d;have k:=aB d;clear d;go_enter func223,ntmps223;go_wp2_with (first|(go_at_call 265;refine k.u.mono ?_;rintro e o ⟨rfl,g⟩;have n:=aB g;clear g)|fail)
  go_ret;exact⟨rfl,n.u⟩
 |some r=>
  rw[h] at d;unfold tm at d;have k:=aB d;have C:(0:Int)<=(r:Int):=by omega
  clear d;go_enter func223,ntmps223;go_wp2_with (first|(go_at_call 265;refine k.u.mono ?_;rintro e o ⟨rfl,g⟩;have n:=aB g;clear g)|fail)
  go_ret;exact⟨by simp,n.u⟩
structure tJ (W:ax)(bb nm bt pb:Nat)(vp:ay)(first:ag)(l:df)(rs:ag->List Nat)(hc:Nat->Bool):Prop where
 cV:jh W bb nm bt pb vp first
 ij:bC W bt l
 of:∀name,∃a c b o,(cJ l name).getD (.slice none 0 0)= .slice a (rs name).length c/\(0<(rs name).length->a=some ⟨b,o,none⟩/\b<W.heap.size/\mR W b o (rs name))
 aD:∀name,∀r∈rs name,∃v1 v2 a n c,aG W r 273 [v1,v2,.slice a n c]/\hc r=decide (0<n)
 lens:∀name,(rs name).length<=1073741824
section
variable {W W' :ax} {bb nm bt pb:Nat} {vp:ay} {first:ag} {l:df} {rs:ag->List Nat} {hc:Nat->Bool}
theorem tJ.aE (h:tJ W bb nm bt pb vp first l rs hc)(f:Below W.heap.size W W'):tJ W' bb nm bt pb vp first l rs hc:=by
 refine⟨aG.aE h.cV f,h.ij.aE f,λname=> ?_,λname k i=> ?_,h.lens⟩
 ·obtain⟨a,c,b,m,g,d⟩:=h.of name;exact⟨a,c,b,m,g,λe=>⟨(d e).1,T7 (d e).2.1 f.size,(d e).2.2.aL f (d e).2.1⟩⟩
 ·obtain⟨v1,j,a,n,c,g,d⟩:=h.aD name k i;exact⟨v1,j,a,n,c,g.aE f,d⟩
theorem MG (d n c:Nat)(v1 f:ay)(a:Option Addr)(W:ax)(h:aG W d 273 [v1,f,.slice a n c]):
 Calls prog 224 #[.pointer (some ⟨d,0,none⟩)] W λe W'=>e= .returned (.bool (decide (0<n)))/\W' =W:=by
 have j:=h.cell? (i:=2) rfl;have b:decide ((0:Int)<(n:Int))=decide (0<n):=by rw[Xn];omega
 have g:=aB b;clear h b;go_enter func224,ntmps224;go_wp2_with fail
 go_ret;exact⟨by rw[<-g.u];first|rfl|simp,rfl⟩
theorem Kt (j:Nat)(target:ag)(h:tJ W bb nm bt pb vp first l rs hc)(k:aG W j 127 [.pointer (some ⟨bb,0,none⟩)]):
 Calls prog 222 #[.string ⟨target.toArray⟩,.pointer (some ⟨j,0,none⟩)] W λe W'=>e= .returned (.bool ((rs target).any hc))/\Below W.heap.size W W' :=by
 obtain⟨a,c,b,x,d,f⟩:=h.of target;have N:=aG.cell? (i:=3) h.cV rfl;have J:=k.cell? (i:=0) rfl;have E:=aB (Je (rs target) a c b x 224 #[] hc W (Yi func224 (by kernel_rfl) rfl) (λw z m C=>by obtain⟨v1,o,r,n,D,A,y⟩:=h.aD target m C;rw[y];exact(MG m n D v1 o r w (A.aE z)).mono (λe L q=>⟨q.1,q.2▸TF _ _⟩)) f (h.lens target));have B:=aB h.ij;have I:=aB d;clear h k f d;go_enter func222,ntmps222;go_wp2_with (first|(at_lookup;refine mz _ rfl _ _ 139 rfl 9 138 Xy T0 (.slice none 0 0) (wa _) bt l rfl B.u target rfl _ I.u ?_)|(go_at_call 223;refine E.u.mono ?_;rintro e K ⟨rfl,g⟩;have H:=aB g;clear g)|fail)
 go_ret;exact⟨rfl,H.u⟩
theorem Jh (d:List ag)(a:Option Addr)(cap b i:Nat)(h:tJ W bb nm bt pb vp first l rs hc)(g:0<d.length->a=some ⟨b,i,none⟩/\b<W.heap.size/\dV W b i d)(n:d.length<=1073741824):
 Calls prog 181 #[.pointer (some ⟨bb,0,none⟩),.slice a d.length cap] W λe W'=>e= .returned (.bool (d.any λt=>(rs t).any hc))/\Below W.heap.size W W' :=by
 have f:=(TF W.heap.size W).alloc ak (.cells #[.pointer (some ⟨bb,0,none⟩)] 127);have j:=aG.bA W 127 [.pointer (some ⟨bb,0,none⟩)];have o:=aB (yb d a cap b i 222 #[.pointer (some ⟨W.heap.size,0,none⟩)] (λt=>(rs t).any hc) (W.alloc (.cells #[.pointer (some ⟨bb,0,none⟩)] 127)) (Yi func222 (by kernel_rfl) rfl) (λw m x _=>Kt W.heap.size x ((h.aE f).aE m) (j.aE m)) (λe=>⟨(g e).1,T7 (g e).2.1 f.size,(g e).2.2.aL f (g e).2.1⟩) n);have r:=aB f;clear h g f j;go_enter func181,ntmps181;go_wp2_with (first|(go_at_call 221;refine o.u.mono ?_;rintro e y ⟨rfl,k⟩;have q:=aB (r.u.tr k);clear k)|fail)
 go_ret;exact⟨rfl,q.u⟩
end
theorem JY (rd bb nm bt pb:Nat)(vp v0 o q v4:ay)(first b:ag)(L:NL)(W:ax)(d:aG W rd 186 [v0,.pointer (some ⟨bb,0,none⟩),o,q,v4])(h:jh W bb nm bt pb vp first)(m:bC W nm (iE L))(n:kT L)(g:c_ W)(y:b.length<=1073741824):
 Calls prog 182 #[.pointer (some ⟨rd,0,none⟩),.string ⟨b.toArray⟩] W λe W'=>∃a:Er,bM (cW L) (λ_=>none) [] 0 [] b a/\e= .returned (lq a)/\a.bE.length<=2000/\Below W.heap.size W W' :=by
 have B:=d.cell? (i:=1) rfl;have A:=aG.cell? (i:=0) h rfl;have f:=aB (Cs nm (.func (.func 225) #[] #[]) L (λ_=>none) (λ_=>True) b W (λc _ _=>P2 c) (λ_ _=>trivial) n m g y);clear d h m g;go_enter func182,ntmps182;go_wp2_with (first|(go_at_call 94;refine f.u.mono ?_;clear f;rintro e z ⟨a,k,rfl,x,j⟩;have w:=aB k;have r:=aB j;unfold lq;clear k j)|fail)
 go_ret2
 exact⟨a,w.u,rfl,x,r.u⟩
inductive iQ where
 |rd|cV|aV|ij|jt|bD
 |pK (n:ag)
 |jz (i:Nat)
 |aH (i:Nat)
abbrev dy:=Nat->Option iQ
def dy.bI (F:dy)(v a :ay)(t:iQ):dy:=λk=>if a.ownBlock=some k then some t else if v.ownBlock=some k then none else F k
def dy.put (F:dy)(a:Nat)(t:iQ):dy:=λk=>if k=a then some t else F k
structure Rl where
 tg:List ag
 nd:List ag
 cs:List (ag×Nat)
structure St where
 aV:NL
 aD:List Rl
 bD:List Nat
 first:ag
 of:ag->List Nat
 ph:List ag
 n:Nat
 inc:Nat
 opn:Nat
 tl:Nat
structure Ad where
 rd:Nat
 bx:Nat
 bb:Nat
 nm:Nat
 bt:Nat
 pb:Nat
def dh (rb:Nat->Nat)(a:Nat):ay:= .pointer (some ⟨rb a,0,none⟩)
def m_ (cs:List (ag×Nat)):List ay:=cs.flatMap λc=>[aK c.1,.int .i64 (c.2:Int)]
theorem OI (cs:List (ag×Nat))(c:ag×Nat):m_ (cs++[c])=m_ cs++[aK c.1,.int .i64 (c.2:Int)]:=by unfold m_;rw[US];simp
def gO (W:ax)(F:dy)(t:iQ)(v:ay)(rb:Nat->Nat)(xs:List Nat):Prop:=W.ownsRow 0 265 1 v xs.length (xs.map (dh rb))/\∀k,v.ownBlock=some k->F k=some t
def mK (W:ax)(F:dy)(t:iQ)(v:ay)(cs:List (ag×Nat)):Prop:=W.ownsRow 0 202 2 v cs.length (m_ cs)/\∀k,v.ownBlock=some k->F k=some t
def dz (W:ax)(F:dy)(v:ay)(x:List ag):Prop:=(v= .slice none 0 0/\x=[])\/∃b a c,v= .slice (some ⟨b,a,none⟩) x.length c/\b<W.heap.size/\F b=none/\dV W b a x/\(∃cs d,W.heap[b]?=some (Obj.cells cs 9 d))/\x.length<=c
def nY (e:TypeId):Prop:=e=186\/e=142\/e=273\/e=265\/e=202
structure bu (W:ax)(F:dy)(c:Ad)(rb:Nat->Nat)(s:St):Prop where
 ty:∀k t,F k=some t->k=c.nm\/k=c.bt\/k=c.pb\/∃cs e fz,W.heap[k]?=some (Obj.cells cs e fz)/\nY e
 mw:F c.rd=some .rd
 kB:F c.bb=some .cV
 lQ:F c.nm=some .aV
 lO:F c.bt=some .ij
 lK:F c.pb=some .jt
 ki:∀i,i<s.aD.length->F (rb i)=some (.jz i)
 row:aG W c.rd 186 [.pointer (some ⟨c.bx,0,none⟩),.pointer (some ⟨c.bb,0,none⟩),.int .i64 (s.n:Int),.int .i64 (s.inc:Int),.int .i64 (s.opn:Int)]
 cV:∃vp,jh W c.bb c.nm c.bt c.pb vp s.first/\gO W F .bD vp rb s.bD
 aV:bC W c.nm (iE s.aV)
 jt:bC W c.pb (dm s.ph)
 ij:∃l,bC W c.bt l/\l.length<=s.tl/\∀name,gO W F (.pK name) ((cJ l name).getD (.slice none 0 0)) rb (s.of name)
 aD:∀i r,s.aD[i]?=some r->∃vt vn vc,aG W (rb i) 273 [vt,vn,vc]/\dz W F vt r.tg/\dz W F vn r.nd/\mK W F (.aH i) vc r.cs
 pl:∀i∈s.bD,i<s.aD.length
 ol:∀name,∀i∈s.of name,i<s.aD.length
structure Fr (F F' :dy)(W W' :ax):Prop where
 tn:Tn (λk=>F k≠none) W W'
 fm:∀k,k<W.heap.size->F k=none->F' k=none
theorem Fr.refl (F:dy)(W:ax):Fr F F W W:=⟨Tn.refl _ _,λ_ _ e=>e⟩
theorem Fr.trans {F G H:dy}{W X Y:ax}(h:Fr F G W X)(k:Fr G H X Y):Fr F H W Y:=by refine⟨⟨k.tn.os.trans h.tn.os,k.tn.tape.trans h.tn.tape,k.tn.output.trans h.tn.output,TT h.tn.size k.tn.size,λb a d=>(k.tn.block b (T7 a h.tn.size) (λe=>e (h.fm b a (Classical.not_not.1 d)))).trans (h.tn.block b a d)⟩,λb a e=>k.fm b (T7 a h.tn.size) (h.fm b a e)⟩
theorem Fr.aE {F:dy}{W X:ax}(a:Below W.heap.size W X):Fr F F W X:=⟨Tn.aE a,λ_ _ e=>e⟩
section
variable {W X:ax} {F G:dy} {t:iQ} {v:ay} {rb:Nat->Nat} {xs:List Nat} {cs:List (ag×Nat)} {ws:List ag}
def AQ (F G:dy)(t:iQ)(W X:ax):Prop:=∀k,F k=some t->X.heap[k]?=W.heap[k]?/\G k=some t
theorem gO.same (h:gO W F t v rb xs)(b:AQ F G t W X):gO X G t v rb xs:=⟨bT h.1 (λk a=>(b k (h.2 k a)).1),λk a=>(b k (h.2 k a)).2⟩
theorem mK.same (h:mK W F t v cs)(b:AQ F G t W X):mK X G t v cs:=⟨bT h.1 (λk a=>(b k (h.2 k a)).1),λk a=>(b k (h.2 k a)).2⟩
theorem dz.same (h:dz W F v ws)(i:W.heap.size<=X.heap.size)(f:∀k,k<W.heap.size->F k=none->X.heap[k]?=W.heap[k]?/\G k=none):dz X G v ws:=by
 rcases h with h|⟨b,o,c,h1,h2,h3,h4,h5⟩
 ·exact .inl h
 ·obtain⟨a,d⟩:=f b h2 h3;refine .inr ⟨b,o,c,h1,by omega,d,λg x e=> ?_,by rw[a];exact h5⟩;have:=h4 g x e;unfold World.cell? at*;rw[a];exact this
theorem dz.rP (h:dz W F v ws):qF W v ws:=by
 rcases h with h|⟨b,o,c,h1,h2,h3,h4,h5⟩
 ·exact .inl h
 ·exact .inr ⟨b,o,c,h1,h2,h4⟩
theorem gO.congr {b :Nat->Nat}(h:gO W F t v rb xs)(d:∀a∈xs,b a=rb a):gO W F t v b xs:=by refine⟨?_,h.2⟩;have:xs.map (dh b)=xs.map (dh rb):=Xl (λa e=>by unfold dh;rw[d a e]);rw[this];exact h.1
end
structure Ch (p:iQ->Prop)(c:Ad)(F G:dy)(W X:ax):Prop where
 tn:Tn (λk=>∃t,F k=some t/\p t) W X
 eQ:∀k t,F k=some t->¬p t->G k=some t
 nil:∀k,k<W.heap.size->F k=none->G k=none
 ty:∀k t,G k=some t->k=c.nm\/k=c.bt\/k=c.pb\/∃cs e fz,X.heap[k]?=some (Obj.cells cs e fz)/\nY e
variable {d:Rl}{j:iQ}{b f o m:ay}
section
variable {W X:ax} {F G:dy} {c:Ad} {rb:Nat->Nat} {s:St} {p:iQ->Prop}
theorem bu.lt (h:bu W F c rb s){k:Nat}{t:iQ}(e:F k=some t):k<W.heap.size:=by
 rcases h.ty k t e with e|e|e|⟨cs,e,fz,a,-⟩
 ·subst e;exact h.aV.lt
 ·obtain⟨l,a,-⟩:=h.ij;subst e;exact a.lt
 ·subst e;exact h.jt.lt
 ·exact(TN.1 a).1
theorem Ch.fr (hc:Ch p c F G W X):Fr F G W X:=⟨hc.tn.mono (λk e=>by obtain⟨t,a,-⟩:=e;rw[a];exact λe=>by cases e),hc.nil⟩
theorem Ch.block (hc:Ch p c F G W X)(h:bu W F c rb s){k:Nat}{t:iQ}(e:F k=some t)(b:¬p t):X.heap[k]?=W.heap[k]?:=hc.tn.block k (h.lt e) (λq=>by obtain⟨f,a,d⟩:=q;rw[e] at a;cases a;exact b d)
theorem Ch.same (hc:Ch p c F G W X)(h:bu W F c rb s){t:iQ}(a:¬p t):AQ F G t W X:=λk e=>⟨hc.block h e a,hc.eQ k t e a⟩
theorem Ch.nH (hc:Ch p c F G W X){v:ay}{ws:List ag}(h:dz W F v ws):dz X G v ws:=h.same hc.tn.size (λk a e=>⟨hc.tn.block k a (λq=>by obtain⟨d,b,-⟩:=q;rw[e] at b;cases b),hc.nil k a e⟩)
theorem Ch.qz (hc:Ch p c F G W X)(h:bu W F c rb s)(a:¬p .rd):aG X c.rd 186 [.pointer (some ⟨c.bx,0,none⟩),.pointer (some ⟨c.bb,0,none⟩),.int .i64 (s.n:Int),.int .i64 (s.inc:Int),.int .i64 (s.opn:Int)]:=(hc.block h h.mw a).trans h.row
theorem Ch.rz (hc:Ch p c F G W X)(h:bu W F c rb s)(a:¬p .cV)(e:¬p .bD):∃vp,jh X c.bb c.nm c.bt c.pb vp s.first/\gO X G .bD vp rb s.bD:=by obtain⟨vp,d,b⟩:=h.cV;exact⟨vp,(hc.block h h.kB a).trans d,b.same (hc.same h e)⟩
theorem Ch.qg (hc:Ch p c F G W X)(h:bu W F c rb s)(a:¬p .aV):bC X c.nm (iE s.aV):=h.aV.kG (hc.block h h.lQ a)
theorem Ch.qh (hc:Ch p c F G W X)(h:bu W F c rb s)(a:¬p .jt):bC X c.pb (dm s.ph):=h.jt.kG (hc.block h h.lK a)
theorem Ch.qj (hc:Ch p c F G W X)(h:bu W F c rb s)(a:¬p .ij)(f:∀n,¬p (.pK n)):∃l,bC X c.bt l/\l.length<=s.tl/\∀name,gO X G (.pK name) ((cJ l name).getD (.slice none 0 0)) rb (s.of name):=by obtain⟨l,e,d,b⟩:=h.ij;exact⟨l,e.kG (hc.block h h.lO a),d,λname=>(b name).same (hc.same h (f name))⟩
theorem Ch.pq (hc:Ch p c F G W X)(h:bu W F c rb s)(i:¬p (.jz a))(m:¬p (.aH a))(g:s.aD[a]?=some d):∃f b e,aG X (rb a) 273 [f,b,e]/\dz X G f d.tg/\dz X G b d.nd/\mK X G (.aH a) e d.cs:=by obtain⟨f,b,e,k,j,o,n⟩:=h.aD a d g;exact⟨f,b,e,(hc.block h (h.ki a (TZ.1 g).1) i).trans k,hc.nH j,hc.nH o,n.same (hc.same h m)⟩
theorem bu.mq (h:bu W F c rb s){x:Nat}(b:Tn (λk=>k=x) W X)(g:F x=some j)(f:x=c.nm\/x=c.bt\/x=c.pb\/∃cs e d,X.heap[x]?=some (Obj.cells cs e d)/\nY e):Ch (λt=>t=j) c F F W X:=by
 refine⟨b.mono (λk e=>⟨j,by rw[e];exact g,rfl⟩),λ_ _ e _=>e,λ_ _ e=>e,λk t e=> ?_⟩;by_cases a:k=x
 ·rw[a];exact f
 ·rw[b.block k (h.lt e) a];exact h.ty k t e
theorem bu.bA (h:bu W F c rb s)(a:Below W.heap.size W X){g:Nat}{t0:iQ}(i:W.heap.size<=g)(d:∃cs e f,X.heap[g]?=some (Obj.cells cs e f)/\nY e):Ch (λ_=>False) c F (F.put g t0) W X:=by
 refine⟨Tn.aE a,λk t e _=> ?_,λk b e=> ?_,λk t e=> ?_⟩
 ·unfold dy.put;rw[TJ (by have:=h.lt e;omega)];exact e
 ·unfold dy.put;rw[TJ (by omega)];exact e
 ·unfold dy.put at e;split at e
  ·next b=>rw[b];exact .inr (.inr (.inr d))
  ·rw[a.block k (h.lt e)];exact h.ty k t e
theorem bu.tu (h:bu W F c rb s){v:ay}{e:TypeId}{size n:Nat}{xs:List ay}(y:X.ownsRow 0 e size b n xs)(m:W.grownBy X v.ownBlock)(i:∀k,v.ownBlock=some k->F k=some j)(a:b.ownBlock=v.ownBlock\/b.ownBlock=some W.heap.size)(x:nY e):
 Ch (λt=>t=j) c F (F.bI v b j) W X/\∀k,b.ownBlock=some k->(F.bI v b j) k=some j:=by
 refine⟨⟨Tn.grown m (λk e=>⟨j,i k e,rfl⟩),λk t e w=> ?_,λk g e=> ?_,λk t q=> ?_⟩,λk g=>by unfold dy.bI;rw[TP g]⟩
 ·have d:v.ownBlock≠some k:=λq=>by rw[i k q] at e;cases e;exact w rfl
  have f:b.ownBlock≠some k:=λq=>by
   rcases a with a|a
   ·exact d (a▸q)
   ·rw[a] at q;cases q;have:=h.lt e;omega
  unfold dy.bI;rw[TJ f,TJ d];exact e
 ·have d:v.ownBlock≠some k:=λq=>by rw[i k q] at e;cases e
  have f:b.ownBlock≠some k:=λq=>by
   rcases a with a|a
   ·exact d (a▸q)
   ·rw[a] at q;cases q;omega
  unfold dy.bI;rw[TJ f,TJ d];exact e
 ·unfold dy.bI at q;split at q
  ·next g=>obtain⟨r,o,u⟩:=eN y k g;exact .inr (.inr (.inr ⟨r,_,o,u,x⟩))
  ·split at q
   ·cases q
   ·next d f=>rw[m.block k (h.lt q) (λe=>f e.symm)];exact h.ty k t q
theorem bu.aE (h:bu W F c rb s)(a:Below W.heap.size W X):bu X F c rb s:=by have hc:Ch (λ_=>False) c F F W X:=⟨Tn.aE a,λ_ _ e _=>e,λ_ _ e=>e,λk t e=>by rw[a.block k (h.lt e)];exact h.ty k t e⟩;exact⟨hc.ty,h.mw,h.kB,h.lQ,h.lO,h.lK,h.ki,hc.qz h id,hc.rz h id id,hc.qg h id,hc.qh h id,hc.qj h id (λ_=>id),λd f b=>hc.pq h id id b,h.pl,h.ol⟩
end
def jX:NL->ag->Nv->NL
 |[],k,v=>[(k,v)]
 |x::a,k,v=>if x.1==k then(k,v)::a else x::jX a k v
theorem Ey (k:ag)(v:Nv):∀L:NL,eK (iE L) k (kD v)=iE (jX L k v)
 |[]=>rfl
 |x::b=>by
  have a:=Ey k v b;unfold iE at*;rw[Ug,eK,jX];cases d:(x.1==k) with
  |true=>simp|false=>simp[a]
theorem zI (k:ag)(v:Nv):∀L:NL,(jX L k v).length<=L.length+1
 |[]=>TD _
 |x::a=>by
  have b:=zI k v a;rw[jX];split
  ·simp
  ·simp only[TK];omega
theorem yF (k:ag)(v:Nv)(b:v.aT.length<=1073741824):∀L:NL,kT L->kT (jX L k v)
 |[],_,x,a=>by rw[jX,TL] at a;subst a;exact b
 |y::f,h,x,a=>by
  rw[jX] at a;split at a
  ·rcases Ue.1 a with e|e
   ·subst e;exact b
   ·exact h x (TX _ e)
  ·rcases Ue.1 a with e|e
   ·subst e;exact h _ (TY ..)
   ·exact yF k v b f (λz d=>h z (TX _ d)) x e
def mI (of:ag->List Nat)(t:ag)(xs:List Nat):ag->List Nat:=λn=>if n=t then xs else of n
def ku (rb:Nat->Nat)(b d:Nat):Nat->Nat:=λa=>if a=b then d else rb a
variable {g i:List ag}
section
variable {W X Y:ax} {F G:dy} {c:Ad} {rb:Nat->Nat} {s:St} {p:iQ->Prop}
theorem Ch.then (hc:Ch p c F G W X){x:Nat}{t1:iQ}(a:Tn (λk=>k=x) X Y)(j:F x=some t1)(i:x=c.nm\/x=c.bt\/x=c.pb\/∃cs e g,Y.heap[x]?=some (Obj.cells cs e g)/\nY e):Ch (λt=>p t\/t=t1) c F G W Y:=by
 refine⟨⟨a.os.trans hc.tn.os,a.tape.trans hc.tn.tape,a.output.trans hc.tn.output,TT hc.tn.size a.size,λk b d=>(a.block k (T7 b hc.tn.size) (λe=>d ⟨t1,e▸j,.inr rfl⟩)).trans (hc.tn.block k b (λ⟨t,f,h⟩=>d ⟨t,f,.inl h⟩))⟩,λk t e d=>hc.eQ k t e (λq=>d (.inl q)),hc.nil,λk t e=> ?_⟩;by_cases b:k=x
 ·rw[b];exact i
 ·rcases hc.ty k t e with q|q|q|⟨cs,e,g,f,h⟩
  ·exact .inl q
  ·exact .inr (.inl q)
  ·exact .inr (.inr (.inl q))
  ·exact .inr (.inr (.inr ⟨cs,e,g,(a.block k (TN.1 f).1 b).trans f,h⟩))
theorem qY {b:Nat}{e:TypeId}{d:List ay}(h:aG X b e d)(f:nY e):∃cs e a,X.heap[b]?=some (Obj.cells cs e a)/\nY e:=⟨_,_,_,h,f⟩
theorem bu.P9 (h:bu W F c rb s){L:NL}(d:W.mapTurned X c.nm)(b:bC X c.nm (iE L)):bu X F c rb {s with aV:=L}/\Fr F F W X:=by have hc:=h.mq (lx (p:=λk=>k=c.nm) d rfl) h.lQ (.inl rfl);exact⟨⟨hc.ty,h.mw,h.kB,h.lQ,h.lO,h.lK,h.ki,hc.qz (s:=s) h (λe=>by cases e),hc.rz (s:=s) h (λe=>by cases e) (λe=>by cases e),b,hc.qh (s:=s) h (λe=>by cases e),hc.qj (s:=s) h (λe=>by cases e) (λ_ e=>by cases e),λf g a=>hc.pq (s:=s) h (λe=>by cases e) (λe=>by cases e) a,h.pl,h.ol⟩,hc.fr⟩
theorem bu.PO (h:bu W F c rb s){ph:List ag}(d:Tn (λk=>k=c.pb) W X)(b:bC X c.pb (dm ph)):bu X F c rb {s with ph:=ph}/\Fr F F W X:=by have hc:=h.mq d h.lK (.inr (.inr (.inl rfl)));exact⟨⟨hc.ty,h.mw,h.kB,h.lQ,h.lO,h.lK,h.ki,hc.qz (s:=s) h (λe=>by cases e),hc.rz (s:=s) h (λe=>by cases e) (λe=>by cases e),hc.qg (s:=s) h (λe=>by cases e),b,hc.qj (s:=s) h (λe=>by cases e) (λ_ e=>by cases e),λf g a=>hc.pq (s:=s) h (λe=>by cases e) (λe=>by cases e) a,h.pl,h.ol⟩,hc.fr⟩
theorem bu.AK (h:bu W F c rb s){n inc opn:Nat}(b:Tn (λk=>k=c.rd) W X)(a:aG X c.rd 186 [.pointer (some ⟨c.bx,0,none⟩),.pointer (some ⟨c.bb,0,none⟩),.int .i64 (n:Int),.int .i64 (inc:Int),.int .i64 (opn:Int)]):bu X F c rb {s with n:=n,inc:=inc,opn:=opn}/\Fr F F W X:=by have hc:=h.mq b h.mw (.inr (.inr (.inr (qY a (.inl rfl)))));exact⟨⟨hc.ty,h.mw,h.kB,h.lQ,h.lO,h.lK,h.ki,a,hc.rz (s:=s) h (λe=>by cases e) (λe=>by cases e),hc.qg (s:=s) h (λe=>by cases e),hc.qh (s:=s) h (λe=>by cases e),hc.qj (s:=s) h (λe=>by cases e) (λ_ e=>by cases e),λd f a=>hc.pq (s:=s) h (λe=>by cases e) (λe=>by cases e) a,h.pl,h.ol⟩,hc.fr⟩
theorem bu.Q' (h:bu W F c rb s)(x:Below W.heap.size W X)(u:W.heap.size<=a)(r:aG X a 273 [b,f,.slice none 0 0])(z:dz X (F.put a (.jz s.aD.length)) b g)(w:dz X (F.put a (.jz s.aD.length)) f i):
 bu X (F.put a (.jz s.aD.length)) c (ku rb s.aD.length a) {s with aD:=s.aD++[⟨g,i,[]⟩]}/\Fr F (F.put a (.jz s.aD.length)) W X:=by
 have hc:=h.bA (t0:= .jz s.aD.length) x u (qY r (.inr (.inr (.inl rfl))));have n:∀d,d<s.aD.length->ku rb s.aD.length a d=rb d:=λd j=>by unfold ku;rw[TJ (by omega)]
 have heq:ku rb s.aD.length a s.aD.length=a:=by unfold ku;rw[TP rfl]
 refine⟨⟨hc.ty,hc.eQ _ _ h.mw id,hc.eQ _ _ h.kB id,hc.eQ _ _ h.lQ id,hc.eQ _ _ h.lO id,hc.eQ _ _ h.lK id,λd j=> ?_,hc.qz (s:=s) h id,?_,hc.qg (s:=s) h id,hc.qh (s:=s) h id,?_,λd A m=> ?_,λd j=> ?_,λname d j=> ?_⟩,hc.fr⟩
 ·simp only[TE,TK,T1] at j;by_cases e:d=s.aD.length
  ·subst e;rw[heq];unfold dy.put;rw[TP rfl]
  ·rw[n d (by omega)];exact hc.eQ _ _ (h.ki d (by omega)) id
 ·obtain⟨vp,o,q⟩:=hc.rz (s:=s) h id id;exact⟨vp,o,q.congr (λd j=>n d (h.pl d j))⟩
 ·obtain⟨l,o,q,y⟩:=hc.qj (s:=s) h id (λ_=>id);exact⟨l,o,q,λname=>(y name).congr (λd j=>n d (h.ol name d j))⟩
 ·by_cases e:d<s.aD.length
  ·rw[UZ e] at m;rw[n d e];exact hc.pq (s:=s) h id id m
  ·have j:d=s.aD.length:=by
    have:=(TZ.1 m).1;simp only[TE,TK,T1] at this;omega
   subst j;rw[Uq ak,XT] at m;cases m;rw[heq];exact⟨b,f,.slice none 0 0,r,z,w,Uk _ _ _ _,λk e=>by cases e⟩
 ·rw[TE];have:=h.pl d j;omega
 ·rw[TE];have:=h.ol name d j;omega
theorem bu.Sc (h:bu W F c rb s){vp:ay}(u:a<s.aD.length)(z:jh W c.bb c.nm c.bt c.pb vp s.first)(r:gO W F .bD vp rb s.bD)(j:X.ownsRow 0 265 1 b (s.bD.length+1) (s.bD.map (dh rb)++[dh rb a]))(n:W.grownBy X vp.ownBlock)(y:b.ownBlock=vp.ownBlock\/b.ownBlock=some W.heap.size):
 bu (X.setCell ⟨c.bb,1,none⟩ b) (F.bI vp b .bD) c rb {s with bD:=s.bD++[a]}/\Fr F (F.bI vp b .bD) W (X.setCell ⟨c.bb,1,none⟩ b):=by
 obtain⟨hc,o⟩:=h.tu j n r.2 y (.inr (.inr (.inr (.inl rfl))));have g:jh X c.bb c.nm c.bt c.pb vp s.first:=(hc.block h h.kB (λe=>by cases e)).trans z;have m:jh (X.setCell ⟨c.bb,1,none⟩ b) c.bb c.nm c.bt c.pb b s.first:=aG.set g 1 b;have w:some c.bb≠b.ownBlock:=λe=>by obtain⟨B,A,q⟩:=eN j c.bb e.symm;unfold jh aG at g;rw[g] at q;cases q
 have d:=hc.then (t1:= .cV) (Tn.set (p:=λk=>k=c.bb) X ⟨c.bb,1,none⟩ b rfl) h.kB (.inr (.inr (.inr (qY m (.inr (.inl rfl))))));refine⟨⟨d.ty,d.eQ _ _ h.mw (by simp),hc.eQ _ _ h.kB (by simp),d.eQ _ _ h.lQ (by simp),d.eQ _ _ h.lO (by simp),d.eQ _ _ h.lK (by simp),λf i=>d.eQ _ _ (h.ki f i) (by simp),d.qz (s:=s) h (by simp),⟨b,m,?_,o⟩,d.qg (s:=s) h (by simp),d.qh (s:=s) h (by simp),d.qj (s:=s) h (by simp) (by simp),λf C x=>d.pq (s:=s) h (by simp) (by simp) x,λf i=> ?_,h.ol⟩,d.fr⟩
 ·have:=dQ j w 1 b;simpa using this
 ·rcases T4.1 i with e|e
  ·exact h.pl f e
  ·rw[TL] at e;subst e;exact u
theorem bu.QV (h:bu W F c rb s)(f:ag):bu (W.setCell ⟨c.bb,2,none⟩ (aK f)) F c rb {s with first:=f}/\Fr F F W (W.setCell ⟨c.bb,2,none⟩ (aK f)):=by obtain⟨vp,g,d⟩:=h.cV;have a:jh (W.setCell ⟨c.bb,2,none⟩ (aK f)) c.bb c.nm c.bt c.pb vp f:=aG.set g 2 (aK f);have hc:=h.mq (Tn.set (p:=λk=>k=c.bb) W ⟨c.bb,2,none⟩ (aK f) rfl) h.kB (.inr (.inr (.inr (qY a (.inr (.inl rfl))))));exact⟨⟨hc.ty,h.mw,h.kB,h.lQ,h.lO,h.lK,h.ki,hc.qz (s:=s) h (λe=>by cases e),⟨vp,a,d.same (hc.same h (λe=>by cases e))⟩,hc.qg (s:=s) h (λe=>by cases e),hc.qh (s:=s) h (λe=>by cases e),hc.qj (s:=s) h (λe=>by cases e) (λ_ e=>by cases e),λi j b=>hc.pq (s:=s) h (λe=>by cases e) (λe=>by cases e) b,h.pl,h.ol⟩,hc.fr⟩
theorem bu.SI (h:bu W F c rb s){l:df}{name:ag}{v:ay}(C:a<s.aD.length)(J:l.length<=s.tl)(o:∀n,gO W F (.pK n) ((cJ l n).getD (.slice none 0 0)) rb (s.of n))(z:(cJ l name).getD (.slice none 0 0)=v)(i:X.ownsRow 0 265 1 b ((s.of name).length+1) ((s.of name).map (dh rb)++[dh rb a]))(w:W.grownBy X v.ownBlock)(E:b.ownBlock=v.ownBlock\/b.ownBlock=some W.heap.size)(u:X.mapTurned Y c.bt)(A:bC Y c.bt (eK l name b)):
 bu Y (F.bI v b (.pK name)) c rb {s with of:=mI s.of name (s.of name++[a]),tl:=s.tl+1}/\Fr F (F.bI v b (.pK name)) W Y:=by
 have j:=o name;rw[z] at j;obtain⟨hc,y⟩:=h.tu i w j.2 E (.inr (.inr (.inr (.inl rfl))));have r:=lx (p:=λk=>k=c.bt) u rfl;have d:=hc.then (t1:= .ij) r h.lO (.inr (.inl rfl));have B:Y.ownsRow 0 265 1 b ((s.of name).length+1) ((s.of name).map (dh rb)++[dh rb a]):=bT i (λk m=>r.block k (i.lt k m).2 (λe=>by obtain⟨L,H,q⟩:=eN i k m;obtain⟨I,aP,N,K,x,-⟩:=u;rw[e,x] at q;cases q));refine⟨⟨d.ty,d.eQ _ _ h.mw (by simp),d.eQ _ _ h.kB (by simp),d.eQ _ _ h.lQ (by simp),hc.eQ _ _ h.lO (by simp),d.eQ _ _ h.lK (by simp),λg f=>d.eQ _ _ (h.ki g f) (by simp),d.qz (s:=s) h (by simp),d.rz (s:=s) h (by simp) (by simp),d.qg (s:=s) h (by simp),d.qh (s:=s) h (by simp),⟨_,A,?_,λn=> ?_⟩,λg O D=>d.pq (s:=s) h (by simp) (by simp) D,h.pl,λn g f=> ?_⟩,d.fr⟩
 ·have:=FK l name b;show _<=s.tl+1;omega
 ·rw[FX];unfold mI;by_cases e:n=name
  ·subst e;simp only[Vn,YZ];refine⟨?_,y⟩;simpa using B
  ·simp only[TJ e,TJ (aa9 e)];exact(o n).same (d.same h (by simp;exact e))
 ·simp only[mI] at f;split at f
  ·rcases T4.1 f with e|e
   ·exact h.ol name g e
   ·rw[TL] at e;subst e;exact C
  ·exact h.ol n g f
theorem bu.Sf (h:bu W F c rb s)(I:s.aD[a]?=some d)(H:aG W (rb a) 273 [o,m,f])(J:dz W F o d.tg)(B:dz W F m d.nd)(D:mK W F (.aH a) f d.cs){x:ag×Nat}(y:X.ownsRow 0 202 2 b (d.cs.length+1) (m_ d.cs++[aK x.1,.int .i64 (x.2:Int)]))(A:W.grownBy X f.ownBlock)(K:b.ownBlock=f.ownBlock\/b.ownBlock=some W.heap.size):
 bu (X.setCell ⟨rb a,2,none⟩ b) (F.bI f b (.aH a)) c rb {s with aD:=s.aD.set a {d with cs:=d.cs++[x]}}/\Fr F (F.bI f b (.aH a)) W (X.setCell ⟨rb a,2,none⟩ b):=by
 have u:=(TZ.1 I).1;obtain⟨hc,C⟩:=h.tu y A D.2 K (.inr (.inr (.inr (.inr rfl))));have w:aG X (rb a) 273 [o,m,f]:=(hc.block h (h.ki a u) (λe=>by cases e)).trans H;have z:aG (X.setCell ⟨rb a,2,none⟩ b) (rb a) 273 [o,m,b]:=aG.set w 2 b;have E:some (rb a)≠b.ownBlock:=λe=>by obtain⟨N,L,q⟩:=eN y (rb a) e.symm;unfold aG at w;rw[w] at q;cases q
 have g:=hc.then (t1:= .jz a) (Tn.set (p:=λk=>k=rb a) X ⟨rb a,2,none⟩ b rfl) (h.ki a u) (.inr (.inr (.inr (qY z (.inr (.inr (.inl rfl)))))));refine⟨⟨g.ty,g.eQ _ _ h.mw (by simp),g.eQ _ _ h.kB (by simp),g.eQ _ _ h.lQ (by simp),g.eQ _ _ h.lO (by simp),g.eQ _ _ h.lK (by simp),λi j=> ?_,g.qz (s:=s) h (by simp),g.rz (s:=s) h (by simp) (by simp),g.qg (s:=s) h (by simp),g.qh (s:=s) h (by simp),g.qj (s:=s) h (by simp) (by simp),λi O r=> ?_,λi j=> ?_,λn i j=> ?_⟩,g.fr⟩
 ·rw[UB] at j;exact hc.eQ _ _ (h.ki i j) (by simp)
 ·by_cases e:i=a
  ·subst e;rw[aaD u] at r;cases r;refine⟨o,m,b,z,g.nH J,g.nH B,?_,C⟩;rw[OI,TE];exact dQ y E 2 b
  ·rw[Za (aa9 e)] at r;exact g.pq (s:=s) h (by simp;exact e) (by simp;exact e) r
 ·rw[UB];exact h.pl i j
 ·rw[UB];exact h.ol n i j
end
open Classical in
noncomputable def dq (L:NL) (a:ag):Er:=if h:∃b,bM (cW L) (λ_=>none) [] 0 [] a b then h.choose else⟨[],0,0⟩
theorem GW {L:NL}{b:ag}{a:Er}(h:bM (cW L) (λ_=>none) [] 0 [] b a):dq L b=a:=by have d:∃a,bM (cW L) (λ_=>none) [] 0 [] b a:=⟨a,h⟩;unfold dq;rw[dif_pos d];exact bM.kC d.choose_spec h
def kh (s:St)(b:Nat):Bool:=match s.aD[b]? with|some a=>decide (0<a.cs.length)|none=>false
def fT (s:St)(op:Option Nat)(l:Ln):Nat×St:=match op with
 |none=>(1,s)
 |some b=>match s.aD[b]? with|none=>(1,s)|some a=>if a.cs.length=0/\(a.tg.any λt=>(s.of t).any (kh s))=true then(6,s) else(0,{s with aD:=s.aD.set b {a with cs:=a.cs++[(l.right,l.d')]}})
noncomputable def gW (s:St) (l:Ln):Nat×St:=
 if l.cC=4 then(0,{s with aV:=jX s.aV l.left ⟨l.right,true⟩})
 else((dq s.aV l.right).er,{s with aV:=jX s.aV l.left ⟨(dq s.aV l.right).bE,false⟩})
def dH (a:Nat)(s:St)(t:ag):St:={s with of:=mI s.of t (s.of t++[a]),tl:=s.tl+1}
def lu (s:St)(a:List ag)(b:Nat):St:=a.foldl (dH b) (if s.first=[] then {s with first:=a.headD []} else s)
def ra:ag:=[46,80,72,79,78,89]
def bp (s:St)(a b:List ag):Option Nat×St:=
 if a=[ra] then(none,{s with ph:=b.foldl j_ s.ph})
 else if cS (a.headD [])=true then(some s.aD.length,{s with aD:=s.aD++[⟨a,bJ b [],[]⟩],bD:=s.bD++[s.aD.length]})
 else(some s.aD.length,lu {s with aD:=s.aD++[⟨a,bJ b [],[]⟩]} a s.aD.length)
noncomputable def fW (s:St) (l:Ln):Nat×Option Nat×St:=
 if(dq s.aV l.left).er≠0 then((dq s.aV l.left).er,none,s)
 else if(dq s.aV l.right).er≠0 then((dq s.aV l.right).er,none,s)
 else if kp (bH (dq s.aV l.left).bE) (bH (dq s.aV l.right).bE)=false then(1,none,s)
 else if s.n=64 then(5,none,s)
 else(0,bp {s with n:=s.n+1} (bH (dq s.aV l.left).bE) (bH (dq s.aV l.right).bE))
section
variable (rec:St->ag->Nat×Nat×St) (fs:List aI)
def ic (s:St)(w:ag)(b:Nat):Nat×Nat×St:=match Pl.look fs w with
 |none=>(2,b,s)
 |some a=>
  if s.opn=3 then(3,b,s) else if s.inc=100 then(5,b,s)
  else((rec {s with inc:=s.inc+1,opn:=s.opn+1} a.aT).1,(rec {s with inc:=s.inc+1,opn:=s.opn+1} a.aT).2.1,{(rec {s with inc:=s.inc+1,opn:=s.opn+1} a.aT).2.2 with opn:=(rec {s with inc:=s.inc+1,opn:=s.opn+1} a.aT).2.2.opn-1})
def j6 (a:Nat):List ag->St->Nat×Nat×St
 |[],s=>(0,0,s)|w::ws,s=>if(ic rec fs s w a).1≠0 then ic rec fs s w a else j6 a ws (ic rec fs s w a).2.2
noncomputable def kn (s:St) (l:Ln):Nat×Nat×St:=if(dq s.aV l.right).er≠0 then((dq s.aV l.right).er,l.d',s) else j6 rec fs l.d' (bH (dq s.aV l.right).bE) s
noncomputable def ew (s:St) (op:Option Nat) (l:Ln):Nat×Nat×Option Nat×St:=
 if l.cC=1 then((fT s op l).1,l.d',op,(fT s op l).2)
 else if l.cC=5 then((fW s l).1,l.d',(fW s l).2.1,(fW s l).2.2)
 else if l.cC=2 then((kn rec fs s l).1,(kn rec fs s l).2.1,none,(kn rec fs s l).2.2)
 else((gW s l).1,l.d',none,(gW s l).2)
noncomputable def iq:List (Ln×Nat)->St->Option Nat->Nat×Nat×St
 |[],s,_=>(0,0,s)
 |x::xs,s,op=>
  if x.2≠0 then(x.2,x.1.d',s)
  else if(ew rec fs s op x.1).1≠0 then((ew rec fs s op x.1).1,(ew rec fs s op x.1).2.1,(ew rec fs s op x.1).2.2.2)
  else iq xs (ew rec fs s op x.1).2.2.2 (ew rec fs s op x.1).2.2.1
end
noncomputable def iY (fs:List aI):Nat->St->ag->Nat×Nat×St
 |0,s,a=>iq (λs _=>(3,0,s)) fs (ed (di a)) s none
 |d+1,s,a=>iq (iY fs d) fs (ed (di a)) s none
def il:St:=⟨[],[],[],[],λ_=>[],[],0,0,0,0⟩
noncomputable def cI (fs:List aI) (a:ag):Nat×Nat×St:=match Pl.look fs a with|none=>(2,0,il)|some b=>iY fs 3 il b.aT
structure En (W:ax)(F:dy)(bx bf bi:Nat)(ve:ay)(ef:List bL)(fs:List aI)(aP:Int):Prop where
 pw:PW W bx bf bi ve ef fs aP
 fh:c_ W
 n1:F bx=none
 n2:F bf=none
 n3:F bi=none
 n4:F 0=none
section
variable {W X:ax} {F G:dy} {c:Ad} {rb:Nat->Nat} {s:St} {bx bf bi:Nat} {ve:ay} {ef:List bL} {fs:List aI} {aP:Int}
theorem uI (h:c_ W):0<W.heap.size:=by obtain⟨m,a⟩:=h;exact U5 W _ a
theorem En.fr (h:En W F bx bf bi ve ef fs aP)(a:Fr F G W X):En X G bx bf bi ve ef fs aP:=by
 have i:=h.pw.row.lt;have g:=h.pw.aX.lt;have d:bi<W.heap.size:=by obtain⟨l,q,-⟩:=h.pw.first;exact q.lt
 have b:=uI h.fh;refine⟨h.pw.tn a.tn (λe=>e h.n1) (λe=>e h.n2) (λe=>e h.n3),?_,a.fm _ i h.n1,a.fm _ g h.n2,a.fm _ d h.n3,a.fm _ b h.n4⟩;obtain⟨m,f⟩:=h.fh;refine⟨m,?_⟩;have:=a.tn.block _ b (λe=>e h.n4);unfold World.cell? at*;rw[this];exact f
theorem En.aE (h:En W F bx bf bi ve ef fs aP)(a:Below W.heap.size W X):En X F bx bf bi ve ef fs aP:=h.fr (Fr.aE a)
theorem bu.inj (h:bu W F c rb s)(f:a<s.aD.length)(d:k<s.aD.length)(e:rb a=rb k):a=k:=by have b:=h.ki a f;rw[e,h.ki k d] at b;cases b;rfl
theorem gO.Tr {t:iQ}{v:ay}{xs:List Nat}(h:gO W F t v rb xs):∃a cap b k,v= .slice a (xs.map rb).length cap/\(0<(xs.map rb).length->a=some ⟨b,k,none⟩/\b<W.heap.size/\mR W b k (xs.map rb)):=by
 rw[TR];rcases h.1.2 with⟨g,i⟩|⟨m,cap,u,g,i,o,r⟩
 ·rw[i];exact⟨none,0,0,0,g,λe=>by omega⟩
 ·refine⟨some ⟨m,0,none⟩,cap,m,0,g,λe=>⟨rfl,(TN.1 o).1,λn w d=> ?_⟩⟩;have j:=h.1;rw[g] at j;rw[UG] at d;cases f:xs[n]? with
  |none=>rw[f] at d;cases d
  |some y=>rw[f] at d;cases d;have q:=(TZ.1 f).1;have:=kI j n (by rw[TR];exact q);rw[Ur,this,Ut,(TZ.1 f).2];rfl
open Classical in
theorem bu.gp (h:bu W F c rb s)(q:∀name,(s.of name).length<=1073741824):∃vp l,tJ W c.bb c.nm c.bt c.pb vp s.first l (λn=>(s.of n).map rb) (λb=>decide (∃d,d<s.aD.length/\rb d=b/\kh s d=true)):=by
 obtain⟨vp,x,A⟩:=h.cV;obtain⟨l,m,C,y⟩:=h.ij;refine⟨vp,l,x,m,λname=>(y name).Tr,λname H r=> ?_,λname=>by simp only[TR];exact q name⟩;obtain⟨d,o,rfl⟩:=Uc.1 r;have f:=h.ol name d o;obtain⟨i,u,B,j,E,D,z⟩:=h.aD d s.aD[d] (TH f);obtain⟨a,cap,rfl⟩:=gL z.1;refine⟨i,u,a,_,cap,j,?_⟩;have g:kh s d=decide (0<s.aD[d].cs.length):=by unfold kh;rw[TH f]
 rw[Xn];constructor
 ·rintro⟨I,k,w,hc⟩;cases h.inj k f w;rw[g] at hc;simpa using hc
 ·intro e;exact⟨d,f,rfl,by rw[g];simpa using e⟩
open Classical in
theorem bu.any (h:bu W F c rb s)(f:List ag):(f.any λt=>((s.of t).map rb).any (λb=>decide (∃a,a<s.aD.length/\rb a=b/\kh s a=true)))=f.any λt=>(s.of t).any (kh s):=by
 congr 1;funext t;rw[List.any_map];rw[U3,VD,VD];constructor
 ·rintro⟨a,d,e⟩;simp only[Function.comp,U6] at e;obtain⟨j,g,i,hc⟩:=e;cases h.inj g (h.ol t a d) i;exact⟨_,d,hc⟩
 ·rintro⟨a,d,e⟩;exact⟨a,d,by simp only[Function.comp,U6];exact⟨a,h.ol t a d,rfl,e⟩⟩
end
theorem Nh (a:ag)(k:Nat):(gC a k).bE.length<=2000:=by
 unfold gC;split
 ·simp
 ·simp only;omega
theorem p_ {N:ag->Nv}{d:UInt8->Option ag}:∀(f:Nat) (m:List ag) (k:Nat) (a t:ag) (b:Er),dU N d f m k a t=some b->b.bE.length<=2000
 |0,_,_,_,_,_,h=>by cases h
 |f+1,m,k,a,t,b,h=>by
  rw[dU] at h;split at h
  ·cases h;exact Nh _ _
  ·split at h
   ·cases h;simp
   ·split at h
    ·exact p_ f _ _ _ _ _ h
    ·split at h
     ·split at h
      ·cases h;simp
      ·split at h
       ·cases h;simp
       ·split at h
        ·split at h
         ·cases h;simp
         ·split at h
          ·cases h
          ·split at h
           ·exact p_ f _ _ _ _ _ h
           ·cases h;simp
        ·exact p_ f _ _ _ _ _ h
     ·split at h
      ·cases h;simp
      ·exact p_ f _ _ _ _ _ h
theorem sE (L:NL)(t:ag):(dq L t).bE.length<=2000:=by
 unfold dq;split
 ·next h=>obtain⟨f,a⟩:=h.choose_spec;exact p_ f _ _ _ _ _ a
 ·simp
theorem yC:∀(l a:ag),(eB a l).length<=l.length+(if a.isEmpty then 0 else 1)/\∀x∈eB a l,x.length<=a.length+l.length
 |[],a=>by unfold eB;cases h:a.isEmpty<;>simp
 |c::f,a=>by
  unfold eB;split
  ·have b:=yC f [];split
   ·simp only[List.isEmpty_nil,Vn,T1] at b;refine⟨by simp only[TK];omega,λx d=> ?_⟩;have:=b.2 x d;simp only[TK];omega
   ·simp only[List.isEmpty_nil,Vn,T1] at b;refine⟨by simp only[TK];omega,λx d=> ?_⟩;rcases Ue.1 d with e|e
    ·subst e;omega
    ·have:=b.2 x e;simp only[TK];omega
  ·have b:=yC f (a++[c]);have g:(a++[c]).isEmpty=false:=by simp
   rw[g] at b;simp only[Uj,Vk,TE,TK,T1] at b;refine⟨by simp only[TK];omega,λx d=> ?_⟩;have:=b.2 x d;simp only[TK];omega
theorem qQ (l:ag):(bH l).length<=l.length/\∀x∈bH l,x.length<=l.length:=by have:=yC l [];unfold bH;simpa using this
theorem nh:∀(l a:List ag),(bJ l a).length<=l.length+a.length/\∀x∈bJ l a,x∈l\/x∈a
 |[],a=>⟨by unfold bJ;simp,λx b=> .inr b⟩
 |y::f,a=>by
  unfold bJ;split
  ·have d:=nh f a;exact⟨by simp only[TK];omega,λx b=>(d.2 x b).imp (TX _) id⟩
  ·have d:=nh f (a++[y]);simp only[TE,TK,T1] at d;refine⟨by simp only[TK];omega,λx b=> ?_⟩;rcases d.2 x b with e|e
   ·exact .inl (TX _ e)
   ·rcases T4.1 e with e|e
    ·exact .inr e
    ·rw[TL] at e;subst e;exact .inl (TY ..)
structure xz (r:Rl):Prop where
 ne:r.tg≠[]
 tl:r.tg.length<=2000
 nl:r.nd.length<=2000
 tw:∀x∈r.tg,x.length<=2000
 nw:∀x∈r.nd,x.length<=2000
 cw:∀y∈r.cs,y.1.length<=1073741824
structure Ok (s:St)(k:Nat):Prop where
 lB:kT s.aV
 nl:s.aV.length<=k
 ol:∀name,(s.of name).length<=s.tl
 tl:s.tl<=2000*s.n
 iP:s.n<=64
 ph:s.ph.length<=2000*s.n
 pt:s.bD.length<=s.n
 rl:s.aD.length<=s.n
 cl:∀r∈s.aD,r.cs.length<=k
 rs:∀r∈s.aD,xz r
 inc:s.inc<=100
theorem Ok.up {s:St}{k:Nat}(h:Ok s k)(b:k<=a):Ok s a:=⟨h.lB,TT h.nl b,h.ol,h.tl,h.iP,h.ph,h.pt,h.rl,λd e=>TT (h.cl d e) b,h.rs,h.inc⟩
theorem Ok.assign {s:St}{k:Nat}(h:Ok s k){l:Ln}(d:l.right.length<=1073741824):Ok (gW s l).2 (k+1):=by
 have e:=sE s.aV l.right;unfold gW;split
 ·refine⟨yF _ _ d _ h.lB,?_,h.ol,h.tl,h.iP,h.ph,h.pt,h.rl,λa b=>Xd (h.cl a b),h.rs,h.inc⟩;have:=zI l.left ⟨l.right,true⟩ s.aV;have:=h.nl;simp only;omega
 ·refine⟨yF _ _ (by simp only;omega) _ h.lB,?_,h.ol,h.tl,h.iP,h.ph,h.pt,h.rl,λa b=>Xd (h.cl a b),h.rs,h.inc⟩;have:=zI l.left ⟨(dq s.aV l.right).bE,false⟩ s.aV;have:=h.nl;simp only;omega
theorem LF (s:St)(l:Ln):(gW s l).2.inc=s.inc/\(gW s l).2.opn=s.opn/\(gW s l).2.aD.length=s.aD.length:=by unfold gW;split<;>exact⟨rfl,rfl,rfl⟩
theorem Ok.sF {s:St}{k:Nat}(h:Ok s k){op:Option Nat}{l:Ln}(i:l.right.length<=1073741824):Ok (fT s op l).2 (k+1):=by
 unfold fT;split
 ·exact h.up (Ww _)
 ·split
  ·exact h.up (Ww _)
  ·rename_i m _ b j;split
   ·exact h.up (Ww _)
   ·have g:=Vw j;have a:=h.rs b g;have f:∀x∈s.aD.set m {b with cs:=b.cs++[(l.right,l.d')]},x∈s.aD\/x={b with cs:=b.cs++[(l.right,l.d')]}:=λx d=>VK d;refine⟨h.lB,Xd h.nl,h.ol,h.tl,h.iP,h.ph,h.pt,by simp only[UB];exact h.rl,λx d=> ?_,λx d=> ?_,h.inc⟩
    ·rcases f x d with e|e
     ·exact Xd (h.cl x e)
     ·subst e;have:=h.cl b g;simp only[TE,TK,T1];omega
    ·rcases f x d with e|e
     ·exact h.rs x e
     ·subst e;refine⟨a.ne,a.tl,a.nl,a.tw,a.nw,λy n=> ?_⟩;rcases T4.1 n with e|e
      ·exact a.cw y e
      ·rw[TL] at e;subst e;exact i
theorem KM (s:St)(op:Option Nat)(l:Ln):(fT s op l).2.inc=s.inc/\(fT s op l).2.opn=s.opn/\(fT s op l).2.aD.length=s.aD.length:=by
 unfold fT;split
 ·exact⟨rfl,rfl,rfl⟩
 ·split
  ·exact⟨rfl,rfl,rfl⟩
  ·split
   ·exact⟨rfl,rfl,rfl⟩
   ·exact⟨rfl,rfl,by simp⟩
theorem oW (a:Nat):∀(b:List ag) (s:St),(b.foldl (dH a) s).aV=s.aV/\(b.foldl (dH a) s).aD=s.aD/\(b.foldl (dH a) s).bD=s.bD/\(b.foldl (dH a) s).first=s.first/\(b.foldl (dH a) s).ph=s.ph/\(b.foldl (dH a) s).n=s.n/\(b.foldl (dH a) s).inc=s.inc/\(b.foldl (dH a) s).opn=s.opn/\(b.foldl (dH a) s).tl=s.tl+b.length/\((∀n,(s.of n).length<=s.tl)->∀n,((b.foldl (dH a) s).of n).length<=s.tl+b.length)
 |[],s=>⟨rfl,rfl,rfl,rfl,rfl,rfl,rfl,rfl,rfl,λh=>h⟩
 |t::g,s=>by
  obtain⟨f,d,w,o,k,r,j,u,q,i⟩:=oW a g (dH a s t);rw[Ux];refine⟨f,d,w,o,k,r,j,u,?_,λh n=> ?_⟩
  ·rw[q];show s.tl+1+g.length=_;simp only[TK];omega
  ·have:=i (λm=>by
    show(mI s.of t (s.of t++[a]) m).length<=s.tl+1;unfold mI;have f:=h t;have d:=h m;split
    ·simp only[TE,TK,T1];omega
    ·omega) n
   have e:(dH a s t).tl=s.tl+1:=rfl;rw[e] at this;simp only[TK];omega
theorem Ok.add {s:St}{k:Nat}(h:Ok s k)(S:s.n<64)(I:g≠[])(C:g.length<=2000)(Q:i.length<=2000)(D:∀x∈g,x.length<=2000)(J:∀x∈i,x.length<=2000):Ok (bp {s with n:=s.n+1} g i).2 k:=by
 have O:=h.tl;have R:=h.ph;have P:=h.pt;have T:=h.rl;have r:=nh i [];have j:xz ⟨g,bJ i [],[]⟩:=⟨I,C,by have:=r.1;simp only[T1] at this;simp only;omega,D,λx H=>(r.2 x H).elim (J x) (λe=>(by cases e)),λy E=>(by cases E)⟩;have hc:∀a∈s.aD++[⟨g,bJ i [],[]⟩],a.cs.length<=k:=λa j=>by
  rcases T4.1 j with e|e
  ·exact h.cl a e
  ·rw[TL] at e;subst e;simp
 have u:∀a∈s.aD++[⟨g,bJ i [],[]⟩],xz a:=λa N=>by
  rcases T4.1 N with e|e
  ·exact h.rs a e
  ·rw[TL] at e;subst e;exact j
 unfold bp;split
 ·refine⟨h.lB,h.nl,h.ol,by simp only;omega,by simp only;omega,?_,by simp only;omega,by simp only;omega,h.cl,h.rs,h.inc⟩;have:=yq i s.ph;simp only;omega
 ·split
  ·exact⟨h.lB,h.nl,h.ol,by simp only;omega,by simp only;omega,by simp only;omega,by simp only[TE,TK,T1];omega,by simp only[TE,TK,T1];omega,hc,u,h.inc⟩
  ·unfold lu;simp only;have key:∀f:ag,Ok (g.foldl (dH s.aD.length) {s with n:=s.n+1,aD:=s.aD++[⟨g,bJ i [],[]⟩],first:=f}) k:=λf=>by obtain⟨o,d,q,B,A,b,z,L,m,K⟩:=oW s.aD.length g {s with n:=s.n+1,aD:=s.aD++[⟨g,bJ i [],[]⟩],first:=f};have w:=K h.ol;simp only at o d q B A b z L m w;exact⟨by rw[o];exact h.lB,by rw[o];exact h.nl,λn=>by rw[m];exact w n,by rw[m,b];omega,by rw[b];omega,by rw[A,b];omega,by rw[q,b];omega,by rw[d,b,TE,TK,T1];omega,by rw[d];exact hc,by rw[d];exact u,by rw[z];exact h.inc⟩
   split
   ·exact key _
   ·exact key s.first
theorem QL (s:St)(a b:List ag):(bp s a b).2.inc=s.inc/\(bp s a b).2.opn=s.opn/\(bp s a b).2.aV=s.aV/\s.aD.length<=(bp s a b).2.aD.length/\∀d,(bp s a b).1=some d->d<(bp s a b).2.aD.length:=by
 unfold bp;split
 ·exact⟨rfl,rfl,rfl,TD _,λd e=>by cases e⟩
 ·split
  ·exact⟨rfl,rfl,rfl,by simp,λd e=>by cases e;simp⟩
  ·unfold lu;simp only;split
   ·obtain⟨h,f,o,j,q,k,i,g,n,m⟩:=oW s.aD.length a {s with aD:=s.aD++[⟨a,bJ b [],[]⟩],first:=a.headD []};exact⟨i,g,h,by rw[f];simp,λd e=>by cases e;rw[f];simp⟩
   ·obtain⟨h,f,o,j,q,k,i,g,n,m⟩:=oW s.aD.length a {s with aD:=s.aD++[⟨a,bJ b [],[]⟩]};exact⟨i,g,h,by rw[f];simp,λd e=>by cases e;rw[f];simp⟩
theorem Ok.jz {s:St}{k:Nat}(h:Ok s k)(l:Ln):Ok (fW s l).2.2 k:=by
 unfold fW;split
 ·exact h
 ·split
  ·exact h
  ·split
   ·exact h
   ·next hs=>
    split
    ·exact h
    ·next hn=>
     have f:=qQ (dq s.aV l.left).bE;have d:=qQ (dq s.aV l.right).bE;have i:=sE s.aV l.left;have g:=sE s.aV l.right;have b:bH (dq s.aV l.left).bE≠[]:=λe=>by apply hs;unfold kp;rw[e];simp
     exact h.add (by have:=h.iP;omega) b (by omega) (by omega) (λx a=>by have:=f.2 x a;omega) (λx a=>by have:=d.2 x a;omega)
theorem O5 (s:St)(l:Ln):(fW s l).2.2.inc=s.inc/\(fW s l).2.2.opn=s.opn/\s.aD.length<=(fW s l).2.2.aD.length/\∀a,(fW s l).2.1=some a->a<(fW s l).2.2.aD.length:=by
 unfold fW;split
 ·exact⟨rfl,rfl,TD _,λa e=>by cases e⟩
 ·split
  ·exact⟨rfl,rfl,TD _,λa e=>by cases e⟩
  ·split
   ·exact⟨rfl,rfl,TD _,λa e=>by cases e⟩
   ·split
    ·exact⟨rfl,rfl,TD _,λa e=>by cases e⟩
    ·obtain⟨f,b,h,d,g⟩:=QL {s with n:=s.n+1} (bH (dq s.aV l.left).bE) (bH (dq s.aV l.right).bE);exact⟨f,b,d,g⟩
theorem Ha:∀l:List (Ln×Nat),12*l.length<=pC l
 |[]=>TD _
 |x::a=>by have b:=Ha a;unfold pC at*;rw[Ug,XG,TK];omega
theorem yV (t:ag):(ed (di t)).length<=t.length+1:=by have b:=Ha (ed (di t));have a:=NR t;omega
structure j8 (M:Nat)(s:St)(k:Nat)(s' :St)(add:Nat):Prop where
 ok:∃k',Ok s' k' /\k' +(100-s'.inc)*M<=k+(100-s.inc)*M+add
 opn:s'.opn=s.opn
 rl:s.aD.length<=s'.aD.length
def oB (M:Nat)(rec:St->ag->Nat×Nat×St):Prop:=∀(s:St) (k:Nat) (a:ag),Ok s k->a.length+1<=M->a.length<=1073741824->j8 M s k (rec s a).2.2 M
theorem j8.refl {M:Nat}{s:St}{k:Nat}(h:Ok s k)(add:Nat):j8 M s k s add:=⟨⟨k,h,by omega⟩,rfl,TD _⟩
section
variable {M:Nat} {rec:St->ag->Nat×Nat×St} {fs:List aI}
theorem E7 (o:oB M rec)(f:∀p d,Pl.look fs p=some d->d.aT.length+1<=M/\d.aT.length<=1073741824){s:St}{k:Nat}(h:Ok s k)(w:ag)(g:Nat):j8 M s k (ic rec fs s w g).2.2 0:=by
 unfold ic;split
 ·exact j8.refl h 0
 ·next d hg=>
  split
  ·exact j8.refl h 0
  ·split
   ·exact j8.refl h 0
   ·next h1 h2=>
    have x:=h.inc;have m:Ok {s with inc:=s.inc+1,opn:=s.opn+1} k:=⟨h.lB,h.nl,h.ol,h.tl,h.iP,h.ph,h.pt,h.rl,h.cl,h.rs,by simp only;omega⟩;obtain⟨⟨i,a,q⟩,n,u⟩:=o _ k d.aT m (f w d hg).1 (f w d hg).2;refine⟨⟨i,⟨a.lB,a.nl,a.ol,a.tl,a.iP,a.ph,a.pt,a.rl,a.cl,a.rs,a.inc⟩,?_⟩,?_,u⟩
    ·simp only at q⊢;have e:(100-s.inc)*M=(100-(s.inc+1))*M+M:=by
      obtain⟨b,j⟩:∃b,100-s.inc=b+1:=⟨99-s.inc,by omega⟩;have r:100-(s.inc+1)=b:=by omega
      rw[j,r,VO]
     omega
    ·simp only at n⊢;omega
theorem DK (d:oB M rec)(f:∀p b,Pl.look fs p=some b->b.aT.length+1<=M/\b.aT.length<=1073741824)(a:Nat):∀(ws:List ag) (s:St) (k:Nat),Ok s k->j8 M s k (j6 rec fs a ws s).2.2 0
 |[],s,k,h=>j8.refl h 0
 |w::ws,s,k,h=>by
  have e:=E7 d f h w a;unfold j6;split
  ·exact e
  ·obtain⟨⟨i,q,x⟩,j,r⟩:=e;obtain⟨⟨g,o,u⟩,n,m⟩:=DK d f a ws _ i q;exact⟨⟨g,o,by omega⟩,n.trans j,TT r m⟩
theorem Kj (d:oB M rec)(b:∀p a,Pl.look fs p=some a->a.aT.length+1<=M/\a.aT.length<=1073741824){s:St}{k:Nat}(h:Ok s k)(l:Ln):j8 M s k (kn rec fs s l).2.2 0:=by
 unfold kn;split
 ·exact j8.refl h 0
 ·exact DK d b _ _ _ _ h
theorem F7 (q:oB M rec)(r:∀p g,Pl.look fs p=some g->g.aT.length+1<=M/\g.aT.length<=1073741824){s:St}{k:Nat}(h:Ok s k){op:Option Nat}(n:∀a,op=some a->a<s.aD.length){l:Ln}(i:l.right.length<=1073741824):
 j8 M s k (ew rec fs s op l).2.2.2 1/\∀a,(ew rec fs s op l).2.2.1=some a->a<(ew rec fs s op l).2.2.2.aD.length:=by
 unfold ew;split
 ·obtain⟨b,d,f⟩:=KM s op l;exact⟨⟨⟨k+1,h.sF i,by simp only;rw[b];omega⟩,d,by simp only;omega⟩,λa e=>by simp only at e⊢;rw[f];exact n a e⟩
 ·split
  ·obtain⟨b,d,f,j⟩:=O5 s l;exact⟨⟨⟨k,h.jz l,by simp only;rw[b];omega⟩,d,f⟩,j⟩
  ·split
   ·obtain⟨⟨m,u,x⟩,o,w⟩:=Kj q r h l;exact⟨⟨⟨m,u,by simp only;omega⟩,o,w⟩,λa e=>by cases e⟩
   ·obtain⟨b,d,f⟩:=LF s l;exact⟨⟨⟨k+1,h.assign i,by simp only;rw[b];omega⟩,d,by simp only;omega⟩,λa e=>by cases e⟩
theorem yW (g:oB M rec)(m:∀p b,Pl.look fs p=some b->b.aT.length+1<=M/\b.aT.length<=1073741824):∀(xs:List (Ln×Nat)) (s:St) (op:Option Nat) (k:Nat),Ok s k->(∀i,op=some i->i<s.aD.length)->(∀x∈xs,x.1.right.length<=1073741824)->j8 M s k (iq rec fs xs s op).2.2 xs.length
 |[],s,op,k,h,_,_=>j8.refl h _
 |x::xs,s,op,k,h,r,n=>by
  obtain⟨j,q⟩:=F7 g m h r (n x (TY ..));unfold iq;split
  ·exact j8.refl h _
  ·split
   ·obtain⟨⟨a,e,u⟩,d,f⟩:=j;exact⟨⟨a,e,by simp only[TK];omega⟩,d,f⟩
   ·obtain⟨⟨a,e,u⟩,d,f⟩:=j;obtain⟨⟨o,z,C⟩,B,A⟩:=yW g m xs _ _ a e q (λy w=>n y (TX _ w));exact⟨⟨o,z,by simp only[TK];omega⟩,B.trans d,TT f A⟩
theorem zJ (j:∀p m,Pl.look fs p=some m->m.aT.length+1<=M/\m.aT.length<=1073741824):∀d,oB M (iY fs d)
 |0=>λs k a h u f=>by have q:=yV a;obtain⟨⟨b,n,w⟩,g,o⟩:=yW (M:=M) (rec:=λs _=>(3,0,s)) (fs:=fs) (λs k a h _ _=>j8.refl h M) j (ed (di a)) s none k h (λr e=>by cases e) (λx i=>TT (zR i).2.1 f);exact⟨⟨b,n,by show _<=_;unfold iY;omega⟩,g,o⟩
 |d+1=>λs k a h u f=>by have q:=yV a;obtain⟨⟨b,n,w⟩,g,o⟩:=yW (zJ j d) j (ed (di a)) s none k h (λr e=>by cases e) (λx i=>TT (zR i).2.1 f);exact⟨⟨b,n,by show _<=_;unfold iY;omega⟩,g,o⟩
end
theorem A5:Ok il 0:=⟨λx d=>(by cases d),TD _,λ_=>TD _,TD _,by decide,TD _,TD _,TD _,λb a=>(by cases a),λb a=>(by cases a),by decide⟩
