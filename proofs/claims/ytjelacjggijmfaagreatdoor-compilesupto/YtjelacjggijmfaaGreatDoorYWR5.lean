/- . -/
import Derived.Test.YtjelacjggijmfaaGreatDoorYWR4
import Derived.Laws.CopyOwn
set_option maxHeartbeats 2000000
set_option maxRecDepth 100000
namespace Go.Proofs.YtjelacjggijmfaaGreatDoor
open Pl Mk Cp Proofs.Tryz
open RowKit MapKept ChangeMaps Maps
abbrev dM:=List (ag×Nat)
def gY (a:dM):df:=a.map λx=>(x.1,Value.int .i64 (x.2:Int))
def bG (a:dM)(k:ag):Nat:=((a.find? λx=>x.1==k).map (·.2)).getD 0
theorem zM (k:ag):∀a:dM,(cJ (gY a) k).getD (.int .i64 0)= .int .i64 (bG a k:Int)
 |[]=>rfl
 |x::c=>by
  have b:=zM k c;unfold cJ gY bG at*;rw[Ug,UT,UT];cases d:(x.1==k) with
  |true=>simp|false=>simp only;exact b
theorem DI (k:ag)(n:Nat)(b:0<n)(a:dM)(h:∀x∈a,x.2<n):bG a k<n:=by
 unfold bG;cases c:a.find? (λx=>x.1==k) with
 |none=>exact b
 |some x=>exact h _ (Uw c)
theorem xg (p:Wr)(s:ag):p.aZ s<=p.aY.length:=by
 unfold Wr.aZ;cases a:p.aY.findIdx? (λx=>x==s) with
 |none=>exact TD _
 |some b=>exact VA (Up.1 a).1
theorem xa (p:Wr)(s:ag):(p.cP s).aY.length<=p.aY.length+1:=by
 unfold Wr.cP;cases a:p.aY.findIdx? (λx=>x==s) with
 |none=>simp|some b=>simp
theorem nj (p:Wr)(s:ag):(p.cP s).bh=p.bh:=by
 unfold Wr.cP;cases a:p.aY.findIdx? (λx=>x==s) with
 |none=>rfl|some b=>rfl
theorem Dt (p:Wr)(op:Nat)(b:List Nat):∀a,(l_ p op b a).aY=p.aY
 |0=>rfl|a+1=>Dt p op b a
def bR (p:Wr)(op:Nat)(a:List Nat):Wr:=l_ p op a 2
theorem mD (p:Wr)(op:Nat)(a:List Nat):(bR p op a).bh.length<=p.bh.length+5:=yZ p op a 2
theorem gU (p:Wr)(op:Nat)(a:List Nat):(bR p op a).aY=p.aY:=Dt p op a 2
def fH (b:dM)(c:Nat)(q:Wr)(a:ag):Wr:=bR (bR ((bR (bR q 4 [bG b a]) 5 []).cP a) 3 [c,(bR (bR q 4 [bG b a]) 5 []).aZ a]) 5 []
def ir (c:dM)(p:Wr)(b:Bool)(name:ag)(a:List ag):Wr:=if b then bR p 1 [1] else a.foldl (fH c (p.aZ name)) (bR (p.cP name) 2 [p.aZ name])
theorem Jq (b:dM)(a:Nat)(q:Wr)(c:ag):(fH b a q c).aY.length<=q.aY.length+1:=by unfold fH;rw[gU,gU];refine TT (xa _ _) ?_;rw[gU,gU];exact TD _
theorem JJ (b:dM)(c:Nat)(q:Wr)(a:ag):(fH b c q a).bh.length<=q.bh.length+20:=by unfold fH;have g:=mD q 4 [bG b a];have f:=mD (bR q 4 [bG b a]) 5 [];have d:=mD ((bR (bR q 4 [bG b a]) 5 []).cP a) 3 [c,(bR (bR q 4 [bG b a]) 5 []).aZ a];have e:=mD (bR ((bR (bR q 4 [bG b a]) 5 []).cP a) 3 [c,(bR (bR q 4 [bG b a]) 5 []).aZ a]) 5 [];rw[nj] at d;omega
theorem ye (b:dM)(a:Nat):∀(c:List ag) (q:Wr),(c.foldl (fH b a) q).aY.length<=q.aY.length+c.length/\(c.foldl (fH b a) q).bh.length<=q.bh.length+20*c.length
 |[],q=>⟨TD _,TD _⟩
 |n::d,q=>by have g:=ye b a d (fH b a q n);have f:=Jq b a q n;have e:=JJ b a q n;rw[Ux,TK];omega
theorem Dk (c:dM)(p:Wr)(b:Bool)(name:ag)(a:List ag):(ir c p b name a).aY.length<=p.aY.length+1+a.length/\(ir c p b name a).bh.length<=p.bh.length+5+20*a.length:=by
 unfold ir;cases b with
 |true=>rw[TP rfl,gU];have:=mD p 1 [1];omega
 |false=>simp only[Uj,Vk];have e:=ye c (p.aZ name) a (bR (p.cP name) 2 [p.aZ name]);have d:=mD (p.cP name) 2 [p.aZ name];have f:=xa p name;rw[gU] at e;rw[nj] at d;omega
variable {i f:ay}{c g:ax}{a:Nat}
section
variable {B wb nb:Nat} {p:Wr} {vs vc:ay} {W:ax}
def IK (B wb nb:Nat)(p:Wr)(vs vc:ay)(W:ax)(op:Nat)(c:List Nat)(e:Ending)(b :ax):Prop:=e= .returned (.tuple #[])/\∃a,dK b B wb nb (bR p op c) vs a /\eY wb nb vs vc vs a W b
theorem Aj (h:dK W B wb nb p vs vc)(f:B<=W.heap.size)(d:p.bh.length<=1073741824)(op:Nat)(a:Int)(c:a=op)(b:op<256):
 Calls prog 100 #[.pointer (some ⟨wb,0,none⟩),.int .u8 a,.slice none 0 0] W (IK B wb nb p vs vc W op []):=by subst c;exact ES B wb nb p vs vc op [] none 0 0 W h f b (by simp) (by simp) (λe=>absurd e (by simp)) d
theorem s9 (h:dK W B wb nb p vs vc)(s:B<=W.heap.size)(j:p.bh.length<=1073741824)(op:Nat)(d:Int)(o:d=op)(f:op<256)(a:List Nat)(l:∀x∈a,x<2147483648)(g:a.length<=2)(n:Nat)(q:n=a.length)(N:Nat)(t:N=W.heap.size)(c:Array ay)(r:c=(a.map λx:Nat=>Value.int .i64 (x:Int)).toArray):
 Calls prog 100 #[.pointer (some ⟨wb,0,none⟩),.int .u8 d,.slice (some ⟨N,0,none⟩) n n] (W.alloc (.cells c 3)) (IK B wb nb p vs vc W op a):=by subst o;subst q;subst t;subst r;have b:=(TF W.heap.size W).alloc ak (.cells (a.map λx:Nat=>Value.int .i64 (x:Int)).toArray 3);refine(ES B wb nb p vs vc op a (some ⟨W.heap.size,0,none⟩) a.length W.heap.size _ (h.aE b) (TT s b.size) f l g (λ_=>⟨rfl,aG.bA W _ _⟩) j).mono ?_;rintro e u ⟨rfl,i,m,k⟩;exact⟨rfl,i,m,(eY.aE b).trans k⟩
theorem dK.size (h:dK W B wb nb p vs vc):wb<W.heap.size/\nb<W.heap.size:=⟨h.row.lt,h.nK.lt⟩
theorem eY.aL (h:dK W B wb nb p vs vc)(b:eY wb nb vs vc i f W c){L:Nat}(a:L<=wb)(d:L<=nb):Below L W c :=
 b.tn.aL (TT a (VA h.size.1)) (λk e=>by
  have:=h.wB;rcases e with e|e|e|e
  ·omega
  ·omega
  ·have:=(h.aY.lt k e.symm).1;omega
  ·have:=(h.bh.lt k e.symm).1;omega)
theorem bC.jG {d:df}(g:bC W a d)(h:dK W B wb nb p vs vc)(k:eY wb nb vs vc i f W c)(b:a<B)(j:a≠nb):bC c a d:=
 g.tn k.tn (λe=>by
  rcases e with e|e|e|e
  ·exact mA h.row g e.symm
  ·exact j e
  ·exact dD h.aY b e
  ·exact dD h.bh b e)
end
def rm (name:ag)(c:Bool)(d a:ay)(b:ag):ay:= .agg #[aK name,.bool c,d,a,aK b]
def dV (W:ax)(b d:Nat)(c:List ag):Prop:=∀(a:Nat) (x:ag),c[a]?=some x->W.cell? ⟨b,d+a,none⟩=some (aK x)
theorem dV.aL {W:ax}{b L:Nat}{d:List ag}(h:dV W b a d)(i:Below L W c)(f:b<L):dV c b a d:=λe x g=>(i.cell (p:=⟨b,a+e,none⟩) f).trans (h e x g)
def nO (W:ax)(B wb nb:Nat)(vs vc:ay)(q:Wr)(wr:ax):Prop:=∃a b,dK wr B wb nb q a b /\eY wb nb vs vc a b W wr
theorem Jy (B L wb nb i:Nat)(p:Wr)(vs vc:ay)(c:dM)(name t:ag)(k:Bool)(d:List ag)(a:Option Addr)(cap b Q:Nat)(E:ay)(W:ax)(h:dK W B wb nb p vs vc)(hB:B<=W.heap.size)(a7:L<=wb)(aR:L<=nb)(hf:bC W i (gY c))(a9:i<B)(aQ:i≠nb)(ae:∀x∈c,x.2<2147483648)(R:0<d.length->a=some ⟨b,Q,none⟩/\b<L/\dV W b Q d)(hn:d.length<=1000)(ba:p.aY.length<=1000000)(aO:p.bh.length<=1000000000):
 Calls prog 97 #[.pointer (some ⟨wb,0,none⟩),rm name k (.slice a d.length cap) E t,.map (some i)] W λe W'=>e= .returned (.tuple #[])/\nO W B wb nb vs vc (ir c p k name d) W' :=by
 have zi:∀w,(zeroValue 3).run prog w= .ok (.int .i64 0) w:=λw=>by kernel_rfl
 have z:=aB ((TF W.heap.size W).alloc ak (.cells #[aK name,.bool k,.slice a d.length cap,E,aK t] 197));have m:=aB (h.aE z.u);have Z:=aB (eY.aE (wb:=wb) (nb:=nb) (vs:=vs) (vc:=vc) z.u);have s:=TT hB z.u.size;have HF:=aB hf;have ar:=aB ae;have HA:=aB R;have O:=aB h;clear h R ae hf;cases k with
 |true=>
  have K:ir c p true name d=bR p 1 [1]:=rfl;rw[K];have n:=aB (s9 m.u s (by omega) 1 1 rfl (by decide) [1] (by simp) (by simp) 1 rfl (W.heap.size+1) (TM _ _).symm #[.int .i64 1] rfl);unfold rm aK at*;go_enter func97,ntmps97;go_wp2_with (first|(go_at_call 100;refine n.u.mono ?_;rintro e w1 ⟨rfl,bn,l,g⟩)|fail)
  refine Ua (U' rfl _ _ _) rfl ?_;exact⟨rfl,_,_,l,Z.u.trans g⟩
 |false=>
  have K:ir c p false name d=d.foldl (fH c (p.aZ name)) (bR (p.cP name) 2 [p.aZ name]):=rfl;rw[K];have a1:=aB (aG.bA W 197 [aK name,.bool false,.slice a d.length cap,E,aK t]);have bi:=xg p name;have n:=aB (yh B wb nb p vs vc name _ m.u s (by omega));have bd:(p.cP name).bh.length<=1000000000:=by rw[nj];exact aO
  have br:(p.cP name).aY.length<=1000001:=by have:=xa p name;omega
  have a3:=ye c (p.aZ name);unfold rm aK at*;go_enter func97,ntmps97;go_wp2_with (first|(go_at_call 101;refine n.u.mono ?_;rintro e w1 ⟨rfl,bo,l,g⟩;have ap:=TT s g.tn.size;have am:=aB l;have aD:=aB (Z.u.trans g);have aW:=aB (a1.u.jG m.u g (by decide) (by decide) (by decide));clear l g)|(go_at_call 100;refine(s9 am.u ap (by omega) 2 2 rfl (by decide) [p.aZ name] (by intro x hx;rw[TL] at hx;omega) (by simp) 1 rfl _ rfl #[.int .i64 (p.aZ name)] rfl).mono ?_;rintro e w2 ⟨rfl,bg,aa,v⟩;have c2:=(aW.u.jG am.u v (by decide) (by decide) (by decide)).cell? (i:=2) rfl;have an:Hid (nO W B wb nb vs vc (bR (p.cP name) 2 [p.aZ name]) w2):=⟨_,_,aa,aD.u.trans v⟩;clear aa v)|fail)
  have a':=mD (p.cP name) 2 [p.aZ name];have a2:=gU (p.cP name) 2 [p.aZ name];generalize ai:bR (p.cP name) 2 [p.aZ name]=q at*;have a8:=aB ai;clear ai;go_loopw [25] (λJ wr=>∃f:Nat,J= .int .i64 f/\f<=d.length/\Hid (nO W B wb nb vs vc ((d.take f).foldl (fH c (p.aZ name)) q) wr)) (λJ _=>d.length-aS J)
  case atStart=>exact⟨0,rfl,by omega,an⟩
  case round=>
   clear an c2;obtain⟨f,rfl,az,r⟩:=hrel;by_cases hi:f<d.length
   ·have t1:(f:Int)<d.length:=by omega
    have t0:(0:Int)<=(f:Int):=by omega
    obtain⟨bj,bf,af,j⟩:=r.u;obtain⟨rfl,aI,S⟩:=HA.u (by omega);have cn:=S.aL ((eY.aL O.u j a7 aR)) aI f d[f] (TH hi);have a4:=aB (HF.u.jG O.u j a9 aQ);have aj:=a3 (d.take f) q;rw[Um,VR az,a2] at aj;have T:(d.take (f+1)).foldl (fH c (p.aZ name)) q=fH c (p.aZ name) ((d.take f).foldl (fH c (p.aZ name)) q) d[f]:=by rw[YK,VX,TH hi];rfl
    have U:=TT hB j.tn.size;have aw:=aB T;have aU:=aB af;have a5:=aB j;clear af j T S;generalize bk:(d.take f).foldl (fH c (p.aZ name)) q=q3 at*;generalize hx:d[f]=x at*;have bb:=DI x 2147483648 (by decide) c ar.u;have a6:=zM x c;unfold aK at cn;have au:=mD q3 4 [bG c x];have av:=mD (bR q3 4 [bG c x]) 5 [];have D:=gU q3 4 [bG c x];have A:=gU (bR q3 4 [bG c x]) 5 [];have ao:=xg (bR (bR q3 4 [bG c x]) 5 []) x;have I:=nj (bR (bR q3 4 [bG c x]) 5 []) x;have X:=mD ((bR (bR q3 4 [bG c x]) 5 []).cP x) 3 [p.aZ name,(bR (bR q3 4 [bG c x]) 5 []).aZ x];rw[I] at X;rw[A,D] at ao;have bp:(bR (bR q3 4 [bG c x]) 5 []).aZ x<2147483648:=by omega
    have bs:p.aZ name<2147483648:=by omega
    have aP:q3.bh.length<=1073741824:=by omega
    have aM:(bR q3 4 [bG c x]).bh.length<=1073741824:=by omega
    have a_:(bR (bR q3 4 [bG c x]) 5 []).aY.length<=1048576:=by rw[A,D];omega
    have aq:((bR (bR q3 4 [bG c x]) 5 []).cP x).bh.length<=1073741824:=by rw[I];omega
    have aJ:(bR ((bR (bR q3 4 [bG c x]) 5 []).cP x) 3 [p.aZ name,(bR (bR q3 4 [bG c x]) 5 []).aZ x]).bh.length<=1073741824:=by omega
    clear au av D A I X ao aj;have C4:=aB (s9 aU.u U aP 4 4 rfl (by decide) [bG c x] (by intro y o;rw[TL] at o;omega) (by simp) 1 rfl _ rfl #[.int .i64 (bG c x)] rfl);go_wp2_with (first|(at_lookup;refine mz _ rfl _ _ 179 rfl 9 3 Wh T0 (.int .i64 0) (zi _) i (gY c) rfl a4.u x rfl _ a6 ?_)|(go_at_call 100;refine C4.u.mono ?_;clear C4;rintro e w4 ⟨rfl,bc,ah,C⟩;have ac:=TT U C.tn.size;have C5:=aB (Aj ah ac aM 5 5 rfl (by decide));have aN:=aB (a5.u.trans C);clear ah C)|(go_at_call 100;refine C5.u.mono ?_;clear C5;rintro e w5 ⟨rfl,bq,ad,G⟩;have ab:=TT ac G.tn.size;have C6:=aB (yh B wb nb _ _ _ x _ ad ab a_);have aV:=aB (aN.u.trans G);clear ad G)|(go_at_call 101;refine C6.u.mono ?_;clear C6;rintro e w6 ⟨rfl,be,N,F⟩;have V:=TT ab F.tn.size;have Y:=aB (s9 N V aq 3 3 rfl (by decide) [p.aZ name,(bR (bR q3 4 [bG c x]) 5 []).aZ x] (by intro y o;rw[Ue,TL] at o;omega) (by simp) 2 rfl _ rfl #[.int .i64 (p.aZ name),.int .i64 ((bR (bR q3 4 [bG c x]) 5 []).aZ x)] rfl);have aA:=aB (aV.u.trans F);clear N F)|(go_at_call 100;refine Y.u.mono ?_;clear Y;rintro e w7 ⟨rfl,bl,P,H⟩;have aX:=TT V H.tn.size;have C8:=aB (Aj P aX aJ 5 5 rfl (by decide));have a0:=aB (aA.u.trans H);clear P H)|(go_at_call 100;refine C8.u.mono ?_;clear C8;rintro e w8 ⟨rfl,bm,al,M⟩;have aC:Hid (nO W B wb nb vs vc (fH c (p.aZ name) q3 x) w8):=⟨_,_,al,a0.u.trans M⟩;clear al M)|fail)
    go_roundw
    case rel=>exact⟨f+1,by go_num,by omega,by rw[aw.u];exact aC⟩
    case measure=>simp only[aS];omega
   ·have aT:f=d.length:=by omega
    subst aT;have t1:¬(d.length:Int)<d.length:=by omega
    rw[Us] at r;go_wp2_with fail
    go_end0
    exact⟨rfl,by rw[a8.u];exact r.u⟩
def gd (q:Wr)(c:ag):Wr:=bR (q.cP c) 7 [q.aZ c]
def fK (p:Wr)(a:List ag)(b:Nat):Wr:=bR (a.foldl gd p) 8 [b]
theorem yi:∀(a:List ag) (q:Wr),(a.foldl gd q).aY.length<=q.aY.length+a.length/\(a.foldl gd q).bh.length<=q.bh.length+5*a.length
 |[],q=>⟨TD _,TD _⟩
 |c::e,q=>by have f:=yi e (gd q c);have d:=mD (q.cP c) 7 [q.aZ c];have b:=gU (q.cP c) 7 [q.aZ c];have g:=xa q c;rw[nj] at d;rw[Ux,TK];unfold gd at*;rw[b] at f;omega
theorem Df (p:Wr)(a:List ag)(b:Nat):(fK p a b).aY.length<=p.aY.length+a.length/\(fK p a b).bh.length<=p.bh.length+5*a.length+5:=by have d:=yi a p;have c:=mD (a.foldl gd p) 8 [b];unfold fK;rw[gU];omega
variable {d b:List ay}
theorem aG.AZ {W wr:ax}{B wb nb b:Nat}{p q:Wr}{vs vc:ay}{a:TypeId}(h:aG W b a d)(j:dK W B wb nb p vs vc)(g:nO W B wb nb vs vc q wr)(i:a≠281)(c:a≠9)(f:a≠5):aG wr b a d:=by obtain⟨k,l,_,e⟩:=g;exact h.jG j e i c f
theorem Jl (B L wb nb I s Q b:Nat)(p:Wr)(vs vc n1 n2 n3 Y n5:ay)(a:List ag)(G:Option Addr)(cc v co:Nat)(W:ax)(h:dK W B wb nb p vs vc)(U:B<=W.heap.size)(ao:L<=wb)(al:L<=nb)(M:aG W I 206 [n1,n2,n3,Y,n5,.slice G a.length cc])(O:aG W s 207 [.pointer (some ⟨wb,0,none⟩)])(P:aG W Q 3 [.int .i64 b])(aq:b<2147483648)(V:0<a.length->G=some ⟨v,co,none⟩/\v<L/\dV W v co a)(hn:a.length<=1000)(ar:p.aY.length<=1000000)(az:p.bh.length<=1000000000):
 Calls prog 99 #[.pointer (some ⟨I,0,none⟩),.pointer (some ⟨s,0,none⟩),.pointer (some ⟨Q,0,none⟩)] W λe X=>e= .returned (.tuple #[])/\nO W B wb nb vs vc (fK p a b) X :=by
 have c5:=M.cell? (i:=5) rfl;have R:Hid (nO W B wb nb vs vc p W):=⟨_,_,h,eY.refl _⟩;have t:=aB O;have af:=aB P;have HA:=aB V;have d:=aB h;have aj:=yi;clear h V O P M;go_enter func99,ntmps99;go_wp2_with fail
 go_loopw [8] (λA wr=>∃k:Nat,A= .int .i64 k/\k<=a.length/\Hid (nO W B wb nb vs vc ((a.take k).foldl gd p) wr)) (λA _=>a.length-aS A)
 case atStart=>exact⟨0,rfl,by omega,R⟩
 case round=>
  clear R c5;obtain⟨k,rfl,Z,g⟩:=hrel;have cx:=(t.u.AZ d.u g.u (by decide) (by decide) (by decide)).cell? (i:=0) rfl;have z:=aj (a.take k) p;rw[Um,VR Z] at z;by_cases K:k<a.length
  ·have t1:(k:Int)<a.length:=by omega
   have t0:(0:Int)<=(k:Int):=by omega
   obtain⟨J,H,j,c⟩:=g.u;obtain⟨rfl,ai,E⟩:=HA.u (by omega);have cn:=E.aL ((eY.aL d.u c ao al)) ai k a[k] (TH K);have F:(a.take (k+1)).foldl gd p=gd ((a.take k).foldl gd p) a[k]:=by rw[YK,VX,TH K];rfl
   have m:=TT U c.tn.size;have ab:=aB F;have ah:=aB (t.u.jG d.u c (by decide) (by decide) (by decide));generalize aA:(a.take k).foldl gd p=q3 at*;generalize aD:a[k]=x at*;have w:=(TF wr.heap.size wr).drew;have N:=aB (j.aE w);have C:=aB (c.trans (eY.aE w));have an:=xg q3 x;have T:=nj q3 x;have aC:q3.aZ x<2147483648:=by omega
   have ap:q3.aY.length<=1048576:=by omega
   have aa:(q3.cP x).bh.length<=1073741824:=by rw[T];omega
   unfold aK at cn;have S:=aB (yh B wb nb q3 J H x wr.drew N.u m ap);clear j c F E T an z w;go_wp2_with fail
   go_region_held3 (λw'=>w'.cell? ⟨s,0,none⟩=some (.pointer (some ⟨wb,0,none⟩))) (go_keep) (first|(go_at_call 101;refine S.u.mono ?_;clear S;rintro e w6 ⟨rfl,av,D,n⟩;have ad:=TT m n.tn.size;have i:=aB (s9 D ad aa 7 7 rfl (by decide) [q3.aZ x] (by intro y r;rw[TL] at r;omega) (by simp) 1 rfl _ rfl #[.int .i64 (q3.aZ x)] rfl);have ae:=aB (C.u.trans n);have aw:=(ah.u.drew.jG N.u n (by decide) (by decide) (by decide)).cell? (i:=0) rfl;clear D n)|(go_at_call 100;refine i.u.mono ?_;clear i;rintro e q ⟨rfl,ak,f,l⟩;have o:Hid (nO W B wb nb vs vc (gd q3 x) q):=⟨_,_,f,ae.u.trans l⟩;have au:=(t.u.AZ d.u o.u (by decide) (by decide) (by decide)).cell? (i:=0) rfl;clear f l))
   all_goals go_wp2_with fail
   all_goals go_roundw
   case rel=>exact⟨k+1,by go_num,by omega,by rw[ab.u];exact o⟩
   case measure=>simp only[aS];omega
  ·have am:k=a.length:=by omega
   subst am;have t1:¬(a.length:Int)<a.length:=by omega
   rw[Us] at g z;have ci:=(af.u.AZ d.u g.u (by decide) (by decide) (by decide)).cell? (i:=0) rfl;obtain⟨J,H,j,c⟩:=g.u;have m:=TT U c.tn.size;have i:=aB (s9 j m (by omega) 8 8 rfl (by decide) [b] (by intro y r;rw[TL] at r;omega) (by simp) 1 rfl _ rfl #[.int .i64 b] rfl);have C:=aB c;clear j c;go_wp2_with (first|(go_at_call 100;refine i.u.mono ?_;clear i;rintro e q ⟨rfl,ak,f,l⟩;have o:Hid (nO W B wb nb vs vc (fK p a b) q):=⟨_,_,f,C.u.trans l⟩;clear f l)|fail)
   go_end0
   exact⟨rfl,o.u⟩
theorem NP {w:ax}{B e n cap off:Nat}{c:Array ay}(h:B<=a)(j:w.heap[a]?=some (.cells c e (0,0)))(i:n<=cap)(k:cap<=maxLen)(g:c.size=cap*1)(f:c.toList.take (n*1)=b)(o:off+d.length<=n):
 (w.setRow a (c.toList.take off++(d++c.toList.drop (off+d.length))).toArray).ownsRow B e 1 (.slice (some ⟨a,0,none⟩) n cap) n (b.take off++(d++b.drop (off+d.length))):=by
 rw[aa2] at g f;have m:c.toList.length=cap:=by rw[Array.length_toList];exact g
 have q:b.length=n:=by rw[<-f,Um];omega
 refine⟨by simp;omega,.inr ⟨a,cap,_,rfl,h,setRow_heap w a _ _ e _ j,i,k,by simp;omega,?_⟩⟩;subst f;rw[aa2,aak,aak,Yo,Yo,Um,VR (by omega:off<=c.toList.length),Nat.min_comm n off,VR (by omega:off<=n)];rw[YL,Uh (l:=d) (by omega)];rw[show n-off-d.length=n-(off+d.length) by omega]
theorem Js {f:Program}{y:Array Oper}{c:Oper}{a:Act}{w:ax}{K:Act->ax->Prop}{Q:Exit->Act->ax->Prop}{E:Prop}(X:c.guard=none)(d s:Operand)(m r:TypeId)(F:c.op= .call {callee:= .builtin .copy,args:= #[d,s],argTypes:= #[m,r]})(elem:TypeId)(D:f.underlying m=some (.slice elem))(T:(f.info? elem).map (·.size)=some 1)(B e cap n:Nat)(o:List ay)(N:w.ownsRow B elem 1 (.slice (some ⟨e,0,none⟩) n cap) n o)(off i x:Nat)(C:a.eval d= .slice (some ⟨e,off,none⟩) i x)(l:Addr)(g z:Nat)(U:a.eval s= .slice (some l) g z)(b:List ay)(Z:b.length=g)(H:g<=i)(M:off+g<=n)(R:∀A v,b[A]?=some v->w.cell? (l.add A)=some v)(L:∀v∈b,v.oneCell' =true)(h:∀q,q.ownsRow B elem 1 (.slice (some ⟨e,0,none⟩) n cap) n (o.take off++(b++o.drop (off+b.length)))->Tn (λk=>k=e) w q ->K (a.put c.dst (goInt b.length)) q):
 if Region.wanted c (yielded y a.tmps)=true then Oper.wp f c a w K Q else E:=by
 have V:Region.wanted c (yielded y a.tmps)=true:=by simp[Region.wanted,X]
 rw[TP V];rcases N.2 with⟨j,_⟩|⟨g',aa,I,j,P,t,G,Y,O,J⟩
 ·cases j
 ·cases j;subst Z;have u:=run_copy_row (P:=f) w m r c.type elem e off i x l b.length z I elem b D T t (VR H).symm R (by omega) L;rw[Ub] at u;unfold Oper.wp;simp[execOp,F,resolve,invoke,builtin,C,U,u,Result.andThen];refine h _ (NP P t G Y O J M) ⟨rfl,rfl,rfl,by simp[World.setRow],λk _ S=>setRow_other w e k _ S⟩
theorem Fl (p:Wr)(op:Nat)(b:List Nat):∀a,p.bh.length<=(l_ p op b a).bh.length
 |0=>by show _<=(p.bh++_).length;simp
 |a+1=>by have:=Fl p op b a;show _<=((l_ p op b a).bh++dc _ _).length;rw[TE];omega
theorem Gk (p:Wr)(op:Nat)(a:List Nat):p.bh.length<=(bR p op a).bh.length:=Fl p op a 2
theorem BZ:∀(e:List ag) (q:Wr),q.bh.length<=(e.foldl gd q).bh.length
 |[],_=>TD _
 |c::b,q=>by have d:=BZ b (gd q c);have a:=Gk (q.cP c) 7 [q.aZ c];rw[nj] at a;rw[Ux];exact TT a d
theorem yI (p:Wr)(a:List ag)(b:Nat):p.bh.length<=(fK p a b).bh.length:=TT (BZ a p) (Gk _ 8 [b])
theorem zo (p:Wr):(bR p 6 []).bh.length=p.bh.length+1+2:=by show(((p.bh++[UInt8.ofNat 6])++dc 0 2)++dc 0 0).length=_;simp only[TE,iU _ _ (TD 2),iU _ _ (TS 2),T6]
def tB (q:Wr)(d m:Nat):Wr:=⟨q.aY,q.bh.take d++(dc m 2++q.bh.drop (d+2)),q.kr||gT m 2⟩
def lY (p:Wr)(a:List ag)(b:Nat):Wr:=tB (fK (bR p 6 []) a b) (p.bh.length+1) ((fK (bR p 6 []) a b).bh.length-(p.bh.length+1+2))
theorem LU (a b:ag)(d:Nat)(c:b.length=2):(Lib.byteCells a).take d++(Lib.byteCells b++(Lib.byteCells a).drop (d+(Lib.byteCells b).length))=Lib.byteCells (a.take d++(b++a.drop (d+2))):=by rw[Va,c];unfold Lib.byteCells;simp only[T',List.map_take,List.map_drop]
theorem zE (a b:ag)(d:Nat)(e:b.length=2)(c:d+2<=a.length):(a.take d++(b++a.drop (d+2))).length=a.length:=by simp only[TE,Um,UM];omega
theorem MZ (p:Wr)(a:List ag)(b:Nat):(lY p a b).aY.length<=p.aY.length+a.length/\(lY p a b).bh.length<=p.bh.length+5*a.length+8:=by have c:=Df (bR p 6 []) a b;have d:=zo p;have e:=yI (bR p 6 []) a b;rw[gU] at c;refine⟨c.1,?_⟩;show((fK (bR p 6 []) a b).bh.take (p.bh.length+1)++(dc _ 2++(fK (bR p 6 []) a b).bh.drop (p.bh.length+1+2))).length<=_;rw[zE _ _ _ (iU _ _ (TD 2)) (by omega)];omega
theorem dK.cD {W:ax}{B wb nb n cap d m:Nat}{q:Wr}{vs:ay}(h:dK W B wb nb q vs (.slice (some ⟨a,0,none⟩) n cap))(s:q.bh.length=n)(l:d+2<=n)(t:Tn (λk=>k=wb) W g)(r:aG g wb 281 [.map (some nb),vs,.slice (some ⟨a,0,none⟩) n cap,.bool (q.kr||gT m 2)])(i:c.ownsRow B 5 1 (.slice (some ⟨a,0,none⟩) n cap) n ((Lib.byteCells q.bh).take d++(Lib.byteCells (dc m 2)++(Lib.byteCells q.bh).drop (d+(Lib.byteCells (dc m 2)).length))))(f:Tn (λk=>k=a) g c):
 aG c wb 281 [.map (some nb),vs,.slice (some ⟨a,0,none⟩) n cap,.bool (q.kr||gT m 2)]/\dK c B wb nb (tB q d m) vs (.slice (some ⟨a,0,none⟩) n cap)/\eY wb nb vs (.slice (some ⟨a,0,none⟩) n cap) vs (.slice (some ⟨a,0,none⟩) n cap) W c:=by have j:=iU m 2 (TD 2);have u:=(h.bh.lt a rfl).1;have v:=h.wB;have b:=r.tn f (by omega);rw[LU _ _ _ j] at i;subst s;have o:=zE q.bh (dc m 2) d j l;refine⟨b,h.Hs b ?_ ((t.mono (λk e=> .inl e)).trans (f.mono (λk e=> .inr (by subst e;rfl)))) (λ_ e=> .inl e)⟩;rw[o];exact i
def Ae (a c b:Nat):ay:= .func (.func 99) #[] #[.pointer (some ⟨a,0,none⟩),.pointer (some ⟨c,0,none⟩),.pointer (some ⟨b,0,none⟩)]
theorem KL (B L wb nb A t D a:Nat)(p:Wr)(vs vc M J n3 E Y:ay)(b:List ag)(y:Option Addr)(Q l co:Nat)(W:ax)(h:dK W B wb nb p vs vc)(hB:B<=W.heap.size)(ab:L<=wb)(T:L<=nb)(U:aG W A 206 [M,J,n3,E,Y,.slice y b.length Q])(V:aG W t 207 [.pointer (some ⟨wb,0,none⟩)])(X:aG W D 3 [.int .i64 a])(ad:a<2147483648)(j:0<b.length->y=some ⟨l,co,none⟩/\l<L/\dV W l co b)(hn:b.length<=1000)(ah:p.aY.length<=1000000)(aJ:p.bh.length<=900000000):
 Calls prog 98 #[.pointer (some ⟨wb,0,none⟩),Ae A t D] W λe W'=>e= .returned (.tuple #[])/\nO W B wb nb vs vc (lY p b a) W' :=by
 have ao:(Tryz.prog.info? 5).map (·.size)=some 1:=by kernel_rfl
 have F:=aB (Aj h hB (by omega) 6 6 rfl (by decide));have x:=zo p;have af:=Df (bR p 6 []) b a;have ak:=yI (bR p 6 []) b a;have ae:=gU p 6 [];have N:=aB (λ(k:ax) (o:ay) (g:dK k B wb nb (bR p 6 []) vs o) (c:eY wb nb vs vc vs o W k)=>Jl B L wb nb A t D a (bR p 6 []) vs o M J n3 E Y b y Q l co k g (TT hB c.tn.size) ab T (U.jG h c (by decide) (by decide) (by decide)) (V.jG h c (by decide) (by decide) (by decide)) (X.jG h c (by decide) (by decide) (by decide)) ad (λe=>⟨(j e).1,(j e).2.1,(j e).2.2.aL (eY.aL h c ab T) (j e).2.1⟩) hn (by rw[ae];exact ah) (by omega));have av:=h.wB;clear h U V X j;obtain⟨d,r⟩:∃d,d=p.bh.length+1:=⟨_,rfl⟩;have I:lY p b a=tB (fK (bR p 6 []) b a) d ((fK (bR p 6 []) b a).bh.length-(d+2)):=by rw[r];rfl
 rw[I];rw[<-r] at x;have aC:(fK (bR p 6 []) b a).bh.length<=1000000000:=by omega
 have aD:d+2<=(fK (bR p 6 []) b a).bh.length:=by omega
 have aM:d<=900000001:=by omega
 clear I af ak r;generalize fK (bR p 6 []) b a=q at*;generalize hm:q.bh.length-(d+2)=m at*;unfold Ae;go_enter func98,ntmps98;go_wp2_with (first|(go_at_call 100;refine F.u.mono ?_;clear F;rintro e k ⟨rfl,o,g,c⟩;obtain⟨g1,k1,rfl,-⟩:=d_ g.bh (by omega);have w:=g.row.cell? (i:=2) rfl;rw[x] at w;have H:=aB (N.u _ _ g c);have aj:=aB c;clear g c)|(go_at_call 99;refine H.u.mono ?_;clear H w;rintro e s ⟨rfl,aF,aK,P,R⟩;have f:=aB P;have au:=aB (aj.u.trans R);clear P R)|fail)
 obtain⟨O,i,rfl,aN,-⟩:=d_ f.u.bh (by omega);have aA:=wU f.u.bh;clear x N;have w:=f.u.row.cell? (i:=2) rfl;have aq:=(TF s.heap.size s).drew;have CY:=aB (vX wb m 2 (TD 2) _ _ _ _ s.drew f.u.row (by omega));generalize K:q.bh.length=n at*;have am:=iU m 2 (TD 2);have i1:(d:Int)<=1000000000:=by omega
 have i2:(d:Int)<=(n:Int):=by omega
 have i3:(n:Int)<=(i:Int):=by omega
 have i4:(d:Int)<=(i:Int):=by omega
 have i0:(0:Int)<=(d:Int):=by omega
 have e1:IntKind.wrap .i64 ((d:Int)+2-2)=(d:Int):=by rw[Int.add_sub_cancel];exact wrap_small (by omega) (by omega)
 have az :IntKind.wrap .i64 (d:Int)=(d:Int):=wrap_small (by omega) (by omega);have e2:IntKind.wrap .i64 ((n:Int)-((d:Int)+2))=(m:Int):=by rw[show (n:Int)-((d:Int)+2)=(m:Int) by omega];exact wrap_small (by omega) (by omega)
 have aI:d<=n:=by omega
 have aw:d<=i:=by omega
 go_region_held3 (λw'=>w'.cell? ⟨wb,2,none⟩=some (.slice (some ⟨O,0,none⟩) n i)) (go_keep) (first|(go_at_call 148;refine CY.u.mono ?_;clear CY;rintro e w3 ⟨N3,rfl,aa,C,an,z⟩;have d2:=C.cell? (i:=2) rfl;have ai:=aB (bT f.u.bh (λq G=>z.block q (f.u.bh.lt q G).2 (by have:=(f.u.bh.lt q G).1;omega)));have al:=aB aa;have ap:=aB C;have ar:=aB ((Tn.aE (p:=λq=>q=wb) aq).trans z);clear aa C z an)|(refine Js rfl (.tmp 20) (.tmp 29) 126 126 rfl 5 Ui ao B O i n _ (by have:=ai.u;rw[K] at this;exact this) d _ _ (by rfl) ⟨N3,0,none⟩ 2 2 (by rfl) (Lib.byteCells (dc m 2)) (by rw[Va,am]) (by omega) (by omega) (λaO u hj=>by rw[ji];exact al.u.cell? hj) (sD _) ?_;intro w4 Z S;have v:=aB (f.u.cD K (by omega) ar.u ap.u Z S);have d4:=v.u.1.cell? (i:=2) rfl;clear Z S))
 all_goals go_wp2_with fail
 all_goals go_end0
 all_goals exact⟨rfl,_,_,v.u.2.1,au.u.trans v.u.2.2⟩
