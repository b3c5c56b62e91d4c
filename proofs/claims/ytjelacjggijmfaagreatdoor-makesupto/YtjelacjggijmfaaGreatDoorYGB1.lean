/- . -/
import Derived.Test.YtjelacjggijmfaaGreatDoorYWS4
set_option linter.all false
set_option maxHeartbeats 2000000
set_option maxRecDepth 100000
namespace Go.Proofs.YtjelacjggijmfaaGreatDoor
open Pl Mk Cp Proofs.Tryz
open RowKit MapKept ChangeMaps Maps
variable {W W' X Y:ay}{wk bb nm bt pb bx bf bi a k M:Nat}{vp ve v2 v3 v4 v5 v b f m j:az}{l:dr}{ef:ga}{hc:Nat->Bool}{rb:Nat->Nat}{xs:gb}{cs:List (aj×Nat)}{T g:fv}{n P:aj}{e:Ln}{z:f'}{o:NL}{q:ib}
def jS(W:ay)(c a e d:Nat)(b:az)(first:aj):Prop:=aF W c 142 [.map (some a),b,aK first,.map (some e),.map (some d)]
def zX(g b f d:Nat)(c:az)(first:aj)(W:ay)(h:jS W g b f d c first):
 Calls prog 90 #[π g] W λe W'=>e=.returned (.string ⟨first.toArray⟩)/\W' =W:=by
 have a:=aF.cell? (i:=2) h rfl;unfold aK at a;go_in;go_wp2
 go_ret;exact⟨rfl,rfl⟩
def NR(o k m c:Nat)(l:az)(first:aj)(a:fv)(n:aj)(W:ay)(h:jS W o k m c l first)(j:bF W c (dJ a)):
 Calls prog 237 #[π o,.string ⟨n.toArray⟩] W λe W'=>e=.returned (.bool (decide (n∈a)))/\μ W W':=by
 have:=aF.cell? (i:=4) h rfl;have g:=(X5 W.heap.size W).alloc ax (.cells #[] 316);by_cases b:n∈a
 ·have d:cG (dJ a) n=some (.agg #[]):=by rw[uZ,Yd b]
  have f:=aC d;rw[Y6 b];go_in;go_wp2_with (at_lookup;refine nh _ rfl _ _ 140 rfl 9 316 rW Yj (.agg #[]) (uY) c (dJ a) rfl j n rfl (.agg #[]) f ?_)
  go_ret;exact⟨rfl,g⟩
 have d:cG (dJ a) n=none:=by rw[uZ,Yb b]
 have f:=aC d;rw[Y9 b];go_in;go_wp2_with (at_lookup;refine nj _ rfl _ _ 140 rfl 9 316 rW Yj (.agg #[]) (uY) c (dJ a) rfl j n rfl f ?_)
 go_ret;exact⟨rfl,g⟩
def yl(w:ay):(zeroValue 138).run prog w=.ok (ς) w:=by kernel_rfl
def Po(k d c g:Nat)(f:az)(first:aj)(l:dr)(j:aj)(u:az)(W:ay)(h:jS W k d c g f first)(a:bF W c l)(b:(cG l j).getD (ς)=u):
 Calls prog 236 #[π k,.string ⟨j.toArray⟩] W λe W'=>e=.returned u/\W' =W:=by
 have:=aF.cell? (i:=3) h rfl;go_in;go_wp2_with (at_lookup;refine nk _ rfl _ _ 139 rfl 9 138 ab3 Yj (ς) (yl _) c l rfl a j rfl u (aC b).u ?_)
 go_ret;exact⟨rfl,rfl⟩
def MU(p j g m:Nat)(k:az)(first:aj)(l:dr)(o:aj)(a:fY)(n c:Nat)(W:ay)(h:jS W p j g m k first)(d:bF W g l)(f:(cG l o).getD (ς)=.slice a n c):
 Calls prog 188 #[π p,.string ⟨o.toArray⟩] W λe W'=>e=.returned (.bool (decide (0<n)))/\W' =W:=by
 have:=aF.cell? (i:=3) h rfl;have b:decide ((0:Int)<n)=decide (0<n):=by rw[T8];omega
 go_in;go_wp2_with (at_lookup;refine nk _ rfl _ _ 139 rfl 9 138 ab3 Yj (ς) (yl _) g l rfl d o rfl _ (aC f).u ?_)
 go_ret;exact⟨by rw[<-(aC b).u];first|rfl|simp,rfl⟩
def lq(a:fv)(x:aj):fv:=if x∈a then a else a++[x]
theorem JS:∀{mk:fv},n∈mk->fh (dJ mk) n (.agg #[])=dJ mk
 |[],h=>by cases h
 |y::d,h=>by
  unfold dJ;rw[YE,fh];cases a:(y==n) with
  |true=>
   have:y=n:=by simpa using a
   subst this;simp
  |false=>
   have f:n∈d:=by
    obtain e|e:=YD.1 h
    ·subst e;simp at a
    exact e
   have b:=JS f;unfold dJ at b;simp[b]
def UE:fh (dJ T) n (.agg #[])=dJ (lq T n):=by
 unfold lq;split
 ·next h=>exact JS h
 next h=>exact CZ h
def P2(a:fv)(x:aj):(lq a x).length<=a.length+1:=by
 unfold lq;split
 ·omega
 simp
theorem Al:∀(xs a:fv),(xs.foldl lq a).length<=a.length+xs.length
 |[],_=>X0 _
 |x::b,a=>by have:=Al b (lq a x);have:=P2 a x;rw[YP,Ya];omega
structure DV(W:ay)(pb:Nat)(ph xs:fv)(i:Nat)(wr:ay):Prop where
 tn:Tn (λk=>k=pb) W wr
 map:bF wr pb (dJ ((xs.take i).foldl lq ph))
def M8(I p t l:Nat)(s:az)(first:aj)(f c:fv)(a:fY)(G b r:Nat)(W:ay)(h:jS W I p t l s first)(i:bF W l (dJ f))(D:0<c.length->a=some ⟨b,r,none⟩/\eE W b r c/\(∃cs w,W.heap[b]?=some (Obj.cells cs 9 w)))(F:f.length+c.length<=1073741824):
 Calls prog 229 #[π I,.slice a c.length G] W λe W'=>e=.returned (.tuple #[])/\bF W' l (dJ (c.foldl lq f))/\Tn (λk=>k=l) W W':=by
 have z:DV W l f c 0 W:=⟨Tn.refl _ _,i⟩;go_in;go_wp2
 go_loopw [8] (λn wr=>∃d:Nat,n=ι d/\d<=c.length/\DV W l f c d wr) (λn _=>c.length-aV n)
 case atStart=>exact⟨0,rfl,by omega,z⟩
 obtain⟨d,rfl,U,g⟩:=hrel;by_cases C:d<c.length
 ·have:(d:Int)<c.length:=by omega
  obtain⟨rfl,B,cs,w,m⟩:=(aC D).u (by omega);have Q:b≠l:=λe=>by have⟨Z,v,y,_⟩:=i;subst e;rw[m]at y;cases y
  have L:=(B.same (g.tn.block b (X8.1 m).1 Q)) d c[d] (X9 C);have:=aF.cell? (i:=4) (aF.tn h g.tn (nV h i)) rfl;have q:(c.take (d+1)).foldl lq f=lq ((c.take d).foldl lq f) c[d]:=by rw[Yn C,r'];rfl
  have H:=Al (c.take d) f;rw[YL]at H;unfold aK at L;generalize c[d]=x at*;go_wp2_with (at_mapUpdate;refine q_ _ rfl _ _ _ 140 rfl 9 316 rW Yj l (dJ ((c.take d).foldl lq f)) rfl g.map (by unfold dJ maxLen;rw[Yk];omega) x rfl (.agg #[]) rfl ?_;intro E j A;rw[UE]at j;have R:DV W l f c (d+1) E:=⟨g.tn.trans (mF A rfl),(by rw[(aC q).u];exact j)⟩)
  go_roundw
  case rel=>exact⟨d+1,by go_num,by omega,R⟩
  simp only[aV];omega
 have S:d=c.length:=by omega
 subst S;have:¬(c.length:Int)<c.length:=by omega
 have o:=g.map;rw[YR]at o;go_wp2
 go_end0
 exact⟨rfl,o,g.tn⟩
def OR(W:ay)(t:TypeId)(a:f'):∃Z,Z=(((W.alloc (.map #[] 0)).alloc (.map #[] 0)).alloc (.map #[] 0)).alloc (.cells a.toArray t)/\bF Z W.heap.size []/\bF Z (W.heap.size+1) []/\bF Z (W.heap.size+2) []/\aF Z (W.heap.size+3) t a/\μ W Z/\Z.heap.size=W.heap.size+4:=by
 have h:(W.alloc (.map #[] 0)).heap.size=W.heap.size+1:=X_ _ _;have f:((W.alloc (.map #[] 0)).alloc (.map #[] 0)).heap.size=W.heap.size+2:=by rw[X_,h]
 have j:(((W.alloc (.map #[] 0)).alloc (.map #[] 0)).alloc (.map #[] 0)).heap.size=W.heap.size+3:=by rw[X_,f]
 have g:=bF.oj (W.alloc (.map #[] 0));have i:=bF.oj ((W.alloc (.map #[] 0)).alloc (.map #[] 0));have d:=aF.bq (((W.alloc (.map #[] 0)).alloc (.map #[] 0)).alloc (.map #[] 0)) t a;rw[h]at g;rw[f]at i;rw[j]at d;have e:=(X5 _ ((W.alloc (.map #[] 0)).alloc (.map #[] 0))).alloc ax (.map #[] 0);have b:=(X5 _ (((W.alloc (.map #[] 0)).alloc (.map #[] 0)).alloc (.map #[] 0))).alloc ax (.cells a.toArray t);have k:=(((X5 W.heap.size W).alloc ax (.map #[] 0)).alloc (by omega) (.map #[] 0)).alloc (by omega) (.map #[] 0);exact⟨_,rfl,(((bF.oj W).aD ((X5 _ (W.alloc (.map #[] 0))).alloc ax (.map #[] 0))).aD e).aD b,(g.aD e).aD b,i.aD b,d,k.alloc (by omega) _,by rw[X_,j]⟩
def Ns(W:ay):
 Calls prog 88 #[] W λe W'=>e=.returned (π (W.heap.size+3))/\jS W' (W.heap.size+3) W.heap.size (W.heap.size+1) (W.heap.size+2) (ς) []/\bF W' W.heap.size (ja [])/\bF W' (W.heap.size+1) []/\bF W' (W.heap.size+2) (dJ [])/\μ W W'/\W'.heap.size=W.heap.size+4:=by
 have m:= @B' prog;have⟨Z,d,g,b,i,f,h,a⟩:=OR W 142 [.map (some W.heap.size),ς,aK [],.map (some (W.heap.size+1)),.map (some (W.heap.size+2))];have k:Hid (jS Z (W.heap.size+3) W.heap.size (W.heap.size+1) (W.heap.size+2) (ς) []/\bF Z W.heap.size (ja [])/\bF Z (W.heap.size+1) []/\bF Z (W.heap.size+2) (dJ [])/\μ W Z/\Z.heap.size=W.heap.size+4):=⟨f,g,b,i,h,a⟩;go_in;go_wp2
 go_ret;have:=k;rw[(aC d).u]at this;exact⟨rfl,this⟩
structure xG(W:ay)(wk bb nm bt pb bx bf bi:Nat)(vp ve v2 v3 v4 v5:az)(first:aj)(l:dr)(tg:aj->Bool)(ef:ga)(fs:fy)(aQ:Int):Prop where
 row:aF W wk 193 [π bb,π bx,v2,v3,v4,v5]
 bW:jS W bb nm bt pb vp first
 iL:bF W bt l
 tg:∀name,∃a n c,(cG l name).getD (ς)=.slice a n c/\tg name=decide (0<n)
 pw:PW W bx bf bi ve ef fs aQ
 fQ:dq W
section
variable {first:aj}{tg:aj->Bool}{fs:fy}{aQ:Int}
def xG.aD(h:xG W wk bb nm bt pb bx bf bi vp ve v2 v3 v4 v5 first l tg ef fs aQ)(a:μ W W'):xG W' wk bb nm bt pb bx bf bi vp ve v2 v3 v4 v5 first l tg ef fs aQ:=⟨h.row.aD a,aF.aD h.bW a,h.iL.aD a,h.tg,h.pw.aD a,h.fQ.aD a⟩
def gI(b:fy)(c:aj->Bool)(a:aj)(n:aj):Bool:=(Pl.look b (eb n a)).isSome||c (eb n a)
structure zM(W:ay)(f:aj->Bool)(xs:fv)(i:Nat)(wr:ay):Prop where
 aP:μ W wr
 qU:∀x∈xs.take i,f x=true
def EF(c:fv)(f:aj)(a:fY)(cap b O:Nat)(h:xG W wk bb nm bt pb bx bf bi vp ve v2 v3 v4 v5 first l tg ef fs aQ)(V:0<c.length->a=some ⟨b,O,none⟩/\b<W.heap.size/\eE W b O c)(hn:c.length<=1073741824)(S:∀n∈c,n.length<=4294967200/\n.length+Lib.countB ⟨n.toArray⟩ ⟨#[37]⟩*f.length<=140737488355328):
 Calls prog 141 #[.pointer (some ⟨wk,0,none⟩),.slice a c.length cap,.string ⟨f.toArray⟩] W λe W'=>e=.returned (.bool (c.all (gI fs tg f)))/\Below W.heap.size W W':=by
 have P:zM W (gI fs tg f) c 0 W:=⟨X5 _ _,by simp⟩;go_in;go_wp2
 go_loopw [12] (λK wr=>∃d:Nat,K=.int .i64 d/\d<=c.length/\zM W (gI fs tg f) c d wr) (λK _=>c.length-aV K)
 case atStart=>exact⟨0,rfl,by omega,P⟩
 obtain⟨d,rfl,Y,j⟩:=hrel;by_cases D:d<c.length
 ·have:(d:Int)<c.length:=by omega
  obtain⟨rfl,p,T⟩:=(aC V).u (by omega);have v:=T.aP j.aP p d c[d] (X9 D);have⟨R,X⟩:=(aC S).u c[d] (Ym D);have i:=aC (h.aD j.aP);have J:=j.aP.size;have H:Hid (gI fs tg f c[d]=false->c.all (gI fs tg f)=false):=λe=>by show _=_;rw[aev];exact⟨c[d],Ym D,by rw[e];decide⟩
  have C:Hid (gI fs tg f c[d]=true->∀x∈c.take (d+1),gI fs tg f x=true):=λe x E=>by
   rw[Yn D]at E;obtain m|m:=Yv.1 E
   ·exact j.qU x m
   rw[Yc]at m;subst m;exact e
  clear T;generalize c[d]=x at*;have A:Hid (gI fs tg f x=((Pl.look fs (eb x f)).isSome||tg (eb x f))):=rfl;have z:=aC (H' x f wr i.fQ R X);have⟨t,M,s,U,Q⟩:=i.tg (eb x f);have w:=aC (λk (g:Below wr.heap.size wr k)=>Cn bx bf bi ve ef fs aQ (eb x f) k (i.pw.aD g));have B:=λk (g:Below wr.heap.size wr k)=>MU bb nm bt pb vp first l (eb x f) t M s k (aF.aD i.bW g) (i.iL.aD g) U;rw[<-Q]at B;clear U Q;generalize eb x f=y at*;generalize (Pl.look fs y).isSome=F at*;generalize tg y=Z at*;unfold aK at v;cases F with
  |true=>
   have q:=aC (C (by rw[A.u];rfl));go_wp2_with (first|(go_at_call 187;refine κ z λk g=>?_;have:=aF.cell? (i:=1) (i.row.aD g) rfl)|(go_at_call 174;refine(w _ g).mono ?_;clear w;rintro e L⟨rfl,o⟩;have I:zM W (gI fs tg f) c (d+1) L:=⟨j.aP.trans ((g.tr o).mono J),q⟩;clear o))
   go_roundw
   case rel=>exact⟨d+1,by go_num,by omega,I⟩
   simp only[aV];omega
  |false=>
   cases Z with
   |true=>
    have q:=aC (C (by rw[A.u];rfl));go_wp2_with (first|(go_at_call 187;refine κ z λk g=>?_;have:=aF.cell? (i:=1) (i.row.aD g) rfl)|(go_at_call 174;refine(w _ g).mono ?_;clear w;rintro e L⟨rfl,o⟩;have r:=g.tr o;have:=aF.cell? (i:=0) (i.row.aD r) rfl;clear o)|(go_at_call 188;refine(B _ r).mono ?_;rintro e N⟨rfl,rfl⟩;have I:zM W (gI fs tg f) c (d+1) N:=⟨j.aP.trans (r.mono J),q⟩))
    go_roundw
    case rel=>exact⟨d+1,by go_num,by omega,I⟩
    simp only[aV];omega
   |false=>
    have q:=aC (H (by rw[A.u];rfl));go_wp2_with (first|(go_at_call 187;refine z.mono ?_;clear z;rintro e k⟨rfl,g⟩;have:=aF.cell? (i:=1) (i.row.aD g) rfl)|(go_at_call 174;refine(w _ g).mono ?_;clear w;rintro e L⟨rfl,o⟩;have r:=g.tr o;have:=aF.cell? (i:=0) (i.row.aD r) rfl)|(go_at_call 188;refine(B _ r).mono ?_;rintro e N⟨rfl,rfl⟩))
    go_ret;exact⟨by rw[q.u];rfl,j.aP.trans (r.mono J)⟩
 have G:d=c.length:=by omega
 subst G;have:¬(c.length:Int)<c.length:=by omega
 have q:Hid (c.all (gI fs tg f)=true):=by show _=_;rw[uu];exact λx E=>j.qU x (by rw[YR];exact E)
 go_wp2
 go_ret;exact⟨by rw[q.u];rfl,j.aP⟩
end
def oC(W:ay)(b e:Nat)(rs:gb):Prop:=∀(a:Nat) (d:Nat),rs[a]?=some d->W.cell? ⟨b,e+a,none⟩=some (π d)
def oC.aP(h:oC W wk a xs)(g:Below bb W W')(e:wk<bb):oC W' wk a xs:=λd x f=>(g.cell (p:=η wk (a+d)) e).trans (h d x f)
structure DK(W:ay)(f:Nat->Bool)(xs:gb)(i:Nat)(wr:ay):Prop where
 aP:μ W wr
 no:∀x∈xs.take i,f x=false
def M7(c:gb)(a:fY)(v b A h:Nat)(I:hZ)(f:Nat->Bool)(W:ay)(U:∀args w,(callFunc h args).run prog w=.ok (.enter h args) w)(J:∀w,μ W w->∀x∈c,Calls prog h (#[π x]++I) w λe K=>e=.returned (.bool (f x))/\μ w K)(H:0<c.length->a=some ⟨b,A,none⟩/\b<W.heap.size/\oC W b A c)(s:c.length<=1073741824):
 Calls prog 265 #[.slice a c.length v,.func (.func h) #[] I] W λe W'=>e=.returned (vz (c.findIdx? f))/\μ W W':=by
 have C:DK W f c 0 W:=⟨X5 _ _,by simp⟩;go_in;go_wp2
 go_loopw [8] (λr wr=>∃d:Nat,r=ι d/\d<=c.length/\DK W f c d wr) (λr _=>c.length-aV r)
 case atStart=>exact⟨0,rfl,by omega,C⟩
 obtain⟨d,rfl,V,g⟩:=hrel;by_cases m:d<c.length
 ·have P:(d:Int)<c.length:=by omega
  obtain⟨rfl,L,E⟩:=(aC H).u (by omega);have p:=E.aP g.aP L d c[d] (X9 m);have k:=J wr g.aP c[d] (Ym m);have D:=g.aP.size;have y:Hid (f c[d]=true->c.findIdx? f=some d):=λe=>by rw[YM];refine⟨m,e,λB t=>?_⟩;have:=g.no c[B] (adS.2 ⟨B,by rw[YL];omega,by rw[adq]⟩);rw[this];decide
  have q:Hid (f c[d]=false->∀x∈c.take (d+1),f x=false):=λe x n=>by
   rw[Yn m]at n;obtain l|l:=Yv.1 n
   ·exact g.no x l
   rw[Yc]at l;subst l;exact e
  generalize c[d]=x at*;cases i:f x with
  |true=>
   have o:=aC (y i);rw[i]at k;go_wp2_with (go_at_fn h;refine k.mono ?_;rintro e z⟨rfl,j⟩)
   go_ret;exact⟨by rw[o.u];rfl,g.aP.trans (j.mono D)⟩
  |false=>
   have o:=aC (q i);rw[i]at k;go_wp2_with (go_at_fn h;refine k.mono ?_;rintro e z⟨rfl,j⟩;have S:DK W f c (d+1) z:=⟨g.aP.trans (j.mono D),o⟩)
   go_roundw
   case rel=>exact⟨d+1,by go_num,by omega,S⟩
   simp only[aV];omega
 have T:d=c.length:=by omega
 subst T;have P:¬(c.length:Int)<c.length:=by omega
 have Q:Hid (c.findIdx? f=none):=by show _=_;rw[Zg];exact λx n=>g.no x (by rw[YR];exact n)
 go_wp2
 go_ret;exact⟨by rw[Q.u];rfl,g.aP⟩
def TF(f:Nat->Bool):xs.any f=(xs.findIdx? f).isSome:=by
 cases h:xs.findIdx? f with
 |none=>rw[Zg]at h;rw[Option.isSome_none,pe];exact λx d=>by rw[h x d];decide
 |some e=>rw[YM]at h;obtain⟨b,a,-⟩:=h;rw[Option.isSome_some,Z1];exact⟨_,Ym b,a⟩
def LO(c:gb)(a:fY)(j b k g:Nat)(n:hZ)(f:Nat->Bool)(W:ay)(r:∀args w,(callFunc g args).run prog w=.ok (.enter g args) w)(B:∀w,μ W w->∀x∈c,Calls prog g (#[π x]++n) w λe q=>e=.returned (.bool (f x))/\μ w q)(z:0<c.length->a=some ⟨b,k,none⟩/\b<W.heap.size/\oC W b k c)(y:c.length<=1073741824):
 Calls prog 223 #[.slice a c.length j,.func (.func g) #[] n] W λe W'=>e=.returned (.bool (c.any f))/\μ W W':=by
 have d:=M7 c a j b k g n f W r B z y;rw[TF];cases h:c.findIdx? f with
 |none=>
  rw[h]at d;unfold vz at d;go_in;go_wp2_with (go_at_call 265;refine d.mono ?_;rintro e o⟨rfl,i⟩)
  go_ret;exact⟨rfl,i⟩
 |some A=>
  rw[h]at d;unfold vz at d
  go_in;go_wp2_with (go_at_call 265;refine d.mono ?_;rintro e o⟨rfl,i⟩)
  go_ret;exact⟨by simp,i⟩
structure vS(W:ay)(bb nm bt pb:Nat)(vp:az)(first:aj)(l:dr)(rs:aj->gb)(hc:Nat->Bool):Prop where
 bW:jS W bb nm bt pb vp first
 iL:bF W bt l
 of:∀name,∃a c b o,(cG l name).getD (ς)=.slice a (rs name).length c/\(0<(rs name).length->a=some ⟨b,o,none⟩/\b<W.heap.size/\oC W b o (rs name))
 aG:∀name,∀r∈rs name,∃v1 v2 a n c,aF W r 273 [v1,v2,.slice a n c]/\hc r=decide (0<n)
 lens:∀name,(rs name).length<=1073741824
section
variable {first:aj}{rs:aj->gb}
def vS.aD(h:vS W bb nm bt pb vp first l rs hc)(f:μ W W'):vS W' bb nm bt pb vp first l rs hc:=by
 refine⟨aF.aD h.bW f,h.iL.aD f,λm=>?_,λm i j=>?_,h.lens⟩
 ·have⟨a,c,b,k,g,d⟩:=h.of m;exact⟨a,c,b,k,g,λe=>⟨(d e).1,Yo (d e).2.1 f.size,(d e).2.2.aP f (d e).2.1⟩⟩
 have⟨p,o,a,n,c,g,d⟩:=h.aG m i j;exact⟨p,o,a,n,c,g.aD f,d⟩
def Qf(d n c:Nat)(g f:az)(a:fY)(W:ay)(h:aF W d 273 [g,f,.slice a n c]):
 Calls prog 224 #[π d] W λe W'=>e=.returned (.bool (decide (0<n)))/\W' =W:=by
 have:=h.cell? (i:=2) rfl;have b:decide ((0:Int)<n)=decide (0<n):=by rw[T8];omega
 go_in;go_wp2
 go_ret;exact⟨by rw[<-(aC b).u];first|rfl|simp,rfl⟩
def Ny(g:Nat)(p:aj)(h:vS W bb nm bt pb vp first l rs hc)(k:aF W g 127 [π bb]):
 Calls prog 222 #[.string ⟨p.toArray⟩,π g] W λe W'=>e=.returned (.bool ((rs p).any hc))/\μ W W':=by
 have⟨a,c,b,r,j,f⟩:=h.of p;have:=aF.cell? (i:=3) h.bW rfl;have:=k.cell? (i:=0) rfl;have x:=LO (rs p) a c b r 224 #[] hc W (mL func224 (by kernel_rfl) rfl) (λw A d B=>by have⟨s,t,y,n,o,C,z⟩:=h.aG p d B;rw[z];exact(Qf d n o s t y w (C.aD A)).mono (λe J q=>⟨q.1,q.2▸X5 _ _⟩)) f (h.lens p);go_in;go_wp2_with (first|(at_lookup;refine nk _ rfl _ _ 139 rfl 9 138 ab3 Yj (ς) (yl _) bt l rfl h.iL p rfl _ (aC j).u ?_)|(go_at_call 223;refine x.mono ?_;rintro e I⟨rfl,m⟩))
 go_ret;exact⟨rfl,m⟩
def LR(d:fv)(a:fY)(c b i:Nat)(h:vS W bb nm bt pb vp first l rs hc)(f:0<d.length->a=some ⟨b,i,none⟩/\b<W.heap.size/\eE W b i d)(r:d.length<=1073741824):
 Calls prog 181 #[π bb,.slice a d.length c] W λe W'=>e=.returned (.bool (d.any λt=>(rs t).any hc))/\μ W W':=by
 have g:=(X5 W.heap.size W).alloc ax (.cells #[π bb] 127);have o:=zS d a c b i 222 #[π W.heap.size] (λt=>(rs t).any hc) (W.alloc (.cells #[π bb] 127)) (mL func222 (by kernel_rfl) rfl) (λw j x _=>Ny W.heap.size x ((h.aD g).aD j) ((aF.bq W 127 [π bb]).aD j)) (λe=>⟨(f e).1,Yo (f e).2.1 g.size,(f e).2.2.aP g (f e).2.1⟩) r;go_in;go_wp2_with (go_at_call 221;refine o.mono ?_;rintro e y⟨rfl,k⟩)
 go_ret;exact⟨rfl,g.tr k⟩
end
def MN(o z l y s:Nat)(v w t p u:az)(first b:aj)(L:NL)(W:ay)(d:aF W o 186 [w,π z,t,p,u])(h:jS W z l y s v first)(m:bF W l (ja L))(r:mh L)(f:dq W)(n:b.length<=1073741824):
 Calls prog 182 #[π o,σ b] W λe W'=>∃a:Er,b_ (di L) (λ_=>none) [] 0 [] b a/\e=.returned (mB a)/\a.bK.length<=2000/\μ W W':=by
 have:=d.cell? (i:=1) rfl;have:=aF.cell? (i:=0) h rfl;have k:=Fg l (.func (.func 225) #[] #[]) L (λ_=>none) (λ_=>True) b W (λc _ _=>Ub c) (λ_ _=>trivial) r m f n;go_in;go_wp2_with (go_at_call 94;refine k.mono ?_;rintro e x⟨a,g,rfl,q,j⟩;unfold mB)
 go_ret2
 exact⟨a,g,rfl,q,j⟩
inductive jq where
 |rd|bW|aX|iL|j8|bJ
 |qS (n:aj)
 |kf (i:Nat)
 |aI (i:Nat)
abbrev dS:=Nat->Option jq
def dS.bG(F:dS)(v a:az)(t:jq):dS:=λk=>if a.ownBlock=some k then some t else if v.ownBlock=some k then none else F k
def dS.put(F:dS)(a:Nat)(t:jq):dS:=λk=>if k=a then some t else F k
structure Rl where
 tg:fv
 nd:fv
 cs:List (aj×Nat)
structure St where
 aX:NL
 aG:List Rl
 bJ:gb
 first:aj
 of:aj->gb
 ph:fv
 n:Nat
 inc:Nat
 opn:Nat
 tl:Nat
structure Ad where
 rd:Nat
 bx:Nat
 bb:Nat
 nm:Nat
 bt:Nat
 pb:Nat
def dE(b:Nat->Nat)(a:Nat):az:=.pointer (some ⟨b a,0,none⟩)
def oJ(a:List (aj×Nat)):f':=a.flatMap λc=>[aK c.1,ι (c.2:Int)]
def Sz(c:aj×Nat):oJ (cs++[c])=oJ cs++[aK c.1,ι (c.2:Int)]:=by unfold oJ;rw[Zq];simp
def iz(W:ay)(F:dS)(t:jq)(v:az)(b:Nat->Nat)(a:gb):Prop:=W.ownsRow 0 265 1 v a.length (a.map (dE b))/\∀k,v.ownBlock=some k->F k=some t
def oi(W:ay)(F:dS)(t:jq)(v:az)(a:List (aj×Nat)):Prop:=W.ownsRow 0 202 2 v a.length (oJ a)/\∀k,v.ownBlock=some k->F k=some t
def dU(W:ay)(F:dS)(v:az)(x:fv):Prop:=(v=.slice none 0 0/\x=[])\/∃b a c,v=.slice (some ⟨b,a,none⟩) x.length c/\b<W.heap.size/\F b=none/\eE W b a x/\(∃e d,W.heap[b]?=some (Obj.cells e 9 d))/\x.length<=c
def pB(e:TypeId):Prop:=e=186\/e=142\/e=273\/e=265\/e=202
structure bE(W:ay)(F:dS)(c:Ad)(rb:Nat->Nat)(s:St):Prop where
 ty:∀k t,F k=some t->k=c.nm\/k=c.bt\/k=c.pb\/∃cs e fz,W.heap[k]?=some (Obj.cells cs e fz)/\pB e
 nS:F c.rd=some .rd
 lQ:F c.bb=some .bW
 mZ:F c.nm=some .aX
 mW:F c.bt=some .iL
 mT:F c.pb=some .j8
 lE:∀i,i<s.aG.length->F (rb i)=some (.kf i)
 row:aF W c.rd 186 [π c.bx,π c.bb,ι (s.n:Int),ι (s.inc:Int),ι (s.opn:Int)]
 bW:∃vp,jS W c.bb c.nm c.bt c.pb vp s.first/\iz W F .bJ vp rb s.bJ
 aX:bF W c.nm (ja s.aX)
 j8:bF W c.pb (dJ s.ph)
 iL:∃l,bF W c.bt l/\l.length<=s.tl/\∀name,iz W F (.qS name) ((cG l name).getD (ς)) rb (s.of name)
 aG:∀i r,s.aG[i]?=some r->∃vt vn vc,aF W (rb i) 273 [vt,vn,vc]/\dU W F vt r.tg/\dU W F vn r.nd/\oi W F (.aI i) vc r.cs
 pl:∀i∈s.bJ,i<s.aG.length
 ol:∀name,∀i∈s.of name,i<s.aG.length
structure Fr(F F':dS)(W W':ay):Prop where
 tn:Tn (λk=>F k≠none) W W'
 fS:∀k,k<W.heap.size->F k=none->F' k=none
def Fr.refl(F:dS)(W:ay):Fr F F W W:=⟨Tn.refl _ _,λ_ _ e=>e⟩
def Fr.trans{F G H:dS}(h:Fr F G W X)(k:Fr G H X Y):Fr F H W Y:=by refine⟨⟨k.tn.os.trans h.tn.os,k.tn.tape.trans h.tn.tape,k.tn.output.trans h.tn.output,Ye h.tn.size k.tn.size,λa b d=>(k.tn.block a (Yo b h.tn.size) (λe=>e (h.fS a b (Classical.not_not.1 d)))).trans (h.tn.block a b d)⟩,λa b e=>k.fS a (Yo b h.tn.size) (h.fS a b e)⟩
def Fr.aD{F:dS}(a:μ W X):Fr F F W X:=⟨Tn.aD a,λ_ _ e=>e⟩
section
variable {F G:dS}{t:jq}
def DE(F G:dS)(t:jq)(W X:ay):Prop:=∀k,F k=some t->X.heap[k]?=W.heap[k]?/\G k=some t
def iz.same(h:iz W F t v rb xs)(b:DE F G t W X):iz X G t v rb xs:=⟨bI h.1 (λk a=>(b k (h.2 k a)).1),λk a=>(b k (h.2 k a)).2⟩
def oi.same(h:oi W F t v cs)(b:DE F G t W X):oi X G t v cs:=⟨bI h.1 (λk a=>(b k (h.2 k a)).1),λk a=>(b k (h.2 k a)).2⟩
def dU.same(h:dU W F v T)(i:W.heap.size<=X.heap.size)(f:∀k,k<W.heap.size->F k=none->X.heap[k]?=W.heap[k]?/\G k=none):dU X G v T:=by
 obtain h|⟨b,o,c,m,j,p,l,n⟩:=h
 ·exact .inl h
 have⟨a,g⟩:=f b j p;refine .inr ⟨b,o,c,m,by omega,g,λe x d=>?_,by rw[a];exact n⟩;have:=l e x d;unfold World.cell? at*;rw[a];exact this
def dU.tQ(h:dU W F v T):sy W v T:=by
 obtain h|⟨b,o,c,e,a,g,d,f⟩:=h
 ·exact .inl h
 exact .inr ⟨b,o,c,e,a,d⟩
def iz.congr{b:Nat->Nat}(h:iz W F t v rb xs)(d:∀a∈xs,b a=rb a):iz W F t v b xs:=by refine⟨?_,h.2⟩;have:xs.map (dE b)=xs.map (dE rb):=E1 (λa e=>by unfold dE;rw[d a e]);rw[this];exact h.1
end
structure Ch(p:jq->Prop)(c:Ad)(F G:dS)(W X:ay):Prop where
 tn:Tn (λk=>∃t,F k=some t/\p t) W X
 fe:∀k t,F k=some t->¬p t->G k=some t
 nil:∀k,k<W.heap.size->F k=none->G k=none
 ty:∀k t,G k=some t->k=c.nm\/k=c.bt\/k=c.pb\/∃cs e fz,X.heap[k]?=some (Obj.cells cs e fz)/\pB e
variable {d:Rl}{i:jq}
section
variable {F G:dS}{c:Ad}{s:St}{p:jq->Prop}
def bE.lt(h:bE W F c rb s){k:Nat}{t:jq}(e:F k=some t):k<W.heap.size:=by
 obtain e|e|e|⟨d,e,b,a,-⟩:=h.ty k t e
 ·subst e;exact h.aX.lt
 ·obtain⟨l,a,-⟩:=h.iL;subst e;exact a.lt
 ·subst e;exact h.j8.lt
 exact(X8.1 a).1
def Ch.fr(b:Ch p c F G W X):Fr F G W X:=⟨b.tn.mono (λk e=>by obtain⟨t,a,-⟩:=e;rw[a];exact λe=>by cases e),b.nil⟩
def Ch.block(g:Ch p c F G W X)(h:bE W F c rb s){t:jq}(e:F k=some t)(b:¬p t):X.heap[k]?=W.heap[k]?:=g.tn.block k (h.lt e) (λq=>by have⟨f,a,d⟩:=q;rw[e]at a;cases a;exact b d)
def Ch.same(b:Ch p c F G W X)(h:bE W F c rb s){t:jq}(a:¬p t):DE F G t W X:=λk e=>⟨b.block h e a,b.fe k t e a⟩
def Ch.pc(f:Ch p c F G W X)(h:dU W F v T):dU X G v T:=h.same f.tn.size (λk a e=>⟨f.tn.block k a (λq=>by obtain⟨d,b,-⟩:=q;rw[e]at b;cases b),f.nil k a e⟩)
def Ch.sm(b:Ch p c F G W X)(h:bE W F c rb s)(a:¬p .rd):aF X c.rd 186 [π c.bx,π c.bb,ι s.n,ι s.inc,ι s.opn]:=(b.block h h.nS a).trans h.row
def Ch.tu(f:Ch p c F G W X)(h:bE W F c rb s)(a:¬p .bW)(b:¬p .bJ):∃vp,jS X c.bb c.nm c.bt c.pb vp s.first/\iz X G .bJ vp rb s.bJ:=by have⟨vp,e,d⟩:=h.bW;exact⟨vp,(f.block h h.lQ a).trans e,d.same (f.same h b)⟩
def Ch.rG(b:Ch p c F G W X)(h:bE W F c rb s)(a:¬p .aX):bF X c.nm (ja s.aX):=h.aX.lV (b.block h h.mZ a)
def Ch.rH(b:Ch p c F G W X)(h:bE W F c rb s)(a:¬p .j8):bF X c.pb (dJ s.ph):=h.j8.lV (b.block h h.mT a)
def Ch.rQ(g:Ch p c F G W X)(h:bE W F c rb s)(a:¬p .iL)(b:∀n,¬p (.qS n)):∃l,bF X c.bt l/\l.length<=s.tl/\∀name,iz X G (.qS name) ((cG l name).getD (ς)) rb (s.of name):=by have⟨l,e,d,f⟩:=h.iL;exact⟨l,e.lV (g.block h h.mW a),d,λname=>(f name).same (g.same h (b name))⟩
def Ch.qC(l:Ch p c F G W X)(h:bE W F c rb s)(i:¬p (.kf a))(m:¬p (.aI a))(g:s.aG[a]?=some d):∃f b e,aF X (rb a) 273 [f,b,e]/\dU X G f d.tg/\dU X G b d.nd/\oi X G (.aI a) e d.cs:=by have⟨f,b,e,o,j,k,n⟩:=h.aG a d g;exact⟨f,b,e,(l.block h (h.lE a (Yl.1 g).1) i).trans o,l.pc j,l.pc k,n.same (l.same h m)⟩
def bE.jN(h:bE W F c rb s)(b:Tn (λk=>k=wk) W X)(g:F wk=some i)(f:wk=c.nm\/wk=c.bt\/wk=c.pb\/∃cs e d,X.heap[wk]?=some (Obj.cells cs e d)/\pB e):Ch (λt=>t=i) c F F W X:=by
 refine⟨b.mono (λk e=>⟨i,by rw[e];exact g,rfl⟩),λ_ _ e _=>e,λ_ _ e=>e,λk t e=>?_⟩;by_cases a:k=wk
 ·rw[a];exact f
 rw[b.block k (h.lt e) a];exact h.ty k t e
def bE.bq(h:bE W F c rb s)(a:μ W X){g:Nat}{t0:jq}(i:W.heap.size<=g)(d:∃cs e f,X.heap[g]?=some (Obj.cells cs e f)/\pB e):Ch (λ_=>False) c F (F.put g t0) W X:=by
 refine⟨Tn.aD a,λk t e _=>?_,λk b e=>?_,λk t e=>?_⟩
 ·unfold dS.put;rw[Yb (by have:=h.lt e;omega)];exact e
 ·unfold dS.put;rw[Yb (by omega)];exact e
 unfold dS.put at e;split at e
 ·next b=>rw[b];exact .inr (.inr (.inr d))
 rw[a.block k (h.lt e)];exact h.ty k t e
def bE.vA(h:bE W F c rb s){v:az}{e:TypeId}(o:X.ownsRow 0 e wk b bb z)(m:W.grownBy X v.ownBlock)(j:∀k,v.ownBlock=some k->F k=some i)(a:b.ownBlock=v.ownBlock\/b.ownBlock=some W.heap.size)(y:pB e):
 Ch (λt=>t=i) c F (F.bG v b i) W X/\∀k,b.ownBlock=some k->(F.bG v b i) k=some i:=by
 refine⟨⟨Tn.grown m (λk e=>⟨i,j k e,rfl⟩),λk t e w=>?_,λk g e=>?_,λk t q=>?_⟩,λk g=>by unfold dS.bG;rw[Yd g]⟩
 ·have d:v.ownBlock≠some k:=λq=>by rw[j k q]at e;cases e;exact w rfl
  have f:b.ownBlock≠some k:=λq=>by
   obtain a|a:=a
   ·exact d (a▸q)
   rw[a]at q;cases q;have:=h.lt e;omega
  unfold dS.bG;rw[Yb f,Yb d];exact e
 ·have d:v.ownBlock≠some k:=λq=>by rw[j k q]at e;cases e
  have f:b.ownBlock≠some k:=λq=>by
   obtain a|a:=a
   ·exact d (a▸q)
   rw[a]at q;cases q;omega
  unfold dS.bG;rw[Yb f,Yb d];exact e
 unfold dS.bG at q;split at q
 ·next g=>have⟨u,r,x⟩:=dZ o k g;exact .inr (.inr (.inr ⟨u,_,r,x,y⟩))
 split at q
 ·cases q
 next d f=>rw[m.block k (h.lt q) (λe=>f e.symm)];exact h.ty k t q
def bE.aD(h:bE W F c rb s)(a:μ W X):bE X F c rb s:=by have g:Ch (λ_=>False) c F F W X:=⟨Tn.aD a,λ_ _ e _=>e,λ_ _ e=>e,λk t e=>by rw[a.block k (h.lt e)];exact h.ty k t e⟩;exact⟨g.ty,h.nS,h.lQ,h.mZ,h.mW,h.mT,h.lE,g.sm h id,g.tu h id id,g.rG h id,g.rH h id,g.rQ h id (λ_=>id),λf d b=>g.qC h id id b,h.pl,h.ol⟩
end
def kT:NL->aj->Nv->NL
 |[],k,v=>[(k,v)]
 |x::a,k,v=>if x.1==k then(k,v)::a else x::kT a k v
theorem Hb(k:aj)(v:Nv):∀L:NL,fh (ja L) k (lS v)=ja (kT L k v)
 |[]=>rfl
 |x::a=>by
  have b:=Hb k v a;unfold ja at*;rw[YE,fh,kT];cases d:(x.1==k) with
  |true=>simp|false=>simp[b]
theorem B0(k:aj)(v:Nv):∀L:NL,(kT L k v).length<=L.length+1
 |[]=>X0 _
 |x::a=>by
  have:=B0 k v a;rw[kT];split
  ·simp
  simp only[Ya];omega
theorem AH(k:aj)(v:Nv)(b:v.aU.length<=1073741824):∀L:NL,mh L->mh (kT L k v)
 |[],_,x,a=>by rw[kT,Yc]at a;subst a;exact b
 |y::d,h,x,a=>by
  rw[kT]at a;split at a
  ·obtain e|e:=YD.1 a
   ·subst e;exact b
   exact h x (Yp _ e)
  obtain e|e:=YD.1 a
  ·subst e;exact h _ (Yq ..)
  exact AH k v b d (λz f=>h z (Yp _ f)) x e
def od(a:aj->gb)(t:aj)(b:gb):aj->gb:=λn=>if n=t then b else a n
def lL(c:Nat->Nat)(d b:Nat):Nat->Nat:=λa=>if a=d then b else c a
section
variable {F G:dS}{c:Ad}{s:St}{p:jq->Prop}
def Ch.then(l:Ch p c F G W X){t1:jq}(a:Tn (λk=>k=wk) X Y)(j:F wk=some t1)(i:wk=c.nm\/wk=c.bt\/wk=c.pb\/∃cs e g,Y.heap[wk]?=some (Obj.cells cs e g)/\pB e):Ch (λt=>p t\/t=t1) c F G W Y:=by
 refine⟨⟨a.os.trans l.tn.os,a.tape.trans l.tn.tape,a.output.trans l.tn.output,Ye l.tn.size a.size,λk b d=>(a.block k (Yo b l.tn.size) (λe=>d ⟨t1,e▸j,.inr rfl⟩)).trans (l.tn.block k b (λ⟨t,f,h⟩=>d ⟨t,f,.inl h⟩))⟩,λk t e d=>l.fe k t e (λq=>d (.inl q)),l.nil,λk t e=>?_⟩;by_cases b:k=wk
 ·rw[b];exact i
 obtain q|q|q|⟨cs,e,g,f,h⟩:=l.ty k t e
 ·exact .inl q
 ·exact .inr (.inl q)
 ·exact .inr (.inr (.inl q))
 exact .inr (.inr (.inr ⟨cs,e,g,(a.block k (X8.1 f).1 b).trans f,h⟩))
def sZ{e:TypeId}(h:aF X wk e z)(f:pB e):∃cs e a,X.heap[wk]?=some (Obj.cells cs e a)/\pB e:=⟨_,_,_,h,f⟩
def bE.Un(h:bE W F c rb s)(b:W.mapTurned X c.nm)(d:bF X c.nm (ja o)):bE X F c rb {s with aX:=o}/\Fr F F W X:=by have i:=h.jN (mF (p:=λk=>k=c.nm) b rfl) h.mZ (.inl rfl);exact⟨⟨i.ty,h.nS,h.lQ,h.mZ,h.mW,h.mT,h.lE,i.sm (s:=s) h (λe=>by cases e),i.tu (s:=s) h (λe=>by cases e) (λe=>by cases e),d,i.rH (s:=s) h (λe=>by cases e),i.rQ (s:=s) h (λe=>by cases e) (λ_ e=>by cases e),λg f a=>i.qC (s:=s) h (λe=>by cases e) (λe=>by cases e) a,h.pl,h.ol⟩,i.fr⟩
def bE.TY(h:bE W F c rb s)(b:Tn (λk=>k=c.pb) W X)(d:bF X c.pb (dJ T)):bE X F c rb {s with ph:=T}/\Fr F F W X:=by have i:=h.jN b h.mT (.inr (.inr (.inl rfl)));exact⟨⟨i.ty,h.nS,h.lQ,h.mZ,h.mW,h.mT,h.lE,i.sm (s:=s) h (λe=>by cases e),i.tu (s:=s) h (λe=>by cases e) (λe=>by cases e),i.rG (s:=s) h (λe=>by cases e),d,i.rQ (s:=s) h (λe=>by cases e) (λ_ e=>by cases e),λg f a=>i.qC (s:=s) h (λe=>by cases e) (λe=>by cases e) a,h.pl,h.ol⟩,i.fr⟩
def bE.Dx(h:bE W F c rb s){n inc opn:Nat}(b:Tn (λk=>k=c.rd) W X)(a:aF X c.rd 186 [π c.bx,π c.bb,ι n,ι inc,ι opn]):bE X F c rb {s with n:=n,inc:=inc,opn:=opn}/\Fr F F W X:=by have g:=h.jN b h.nS (.inr (.inr (.inr (sZ a (.inl rfl)))));exact⟨⟨g.ty,h.nS,h.lQ,h.mZ,h.mW,h.mT,h.lE,a,g.tu (s:=s) h (λe=>by cases e) (λe=>by cases e),g.rG (s:=s) h (λe=>by cases e),g.rH (s:=s) h (λe=>by cases e),g.rQ (s:=s) h (λe=>by cases e) (λ_ e=>by cases e),λf d a=>g.qC (s:=s) h (λe=>by cases e) (λe=>by cases e) a,h.pl,h.ol⟩,g.fr⟩
def bE.VC(h:bE W F c rb s)(u:μ W X)(w:W.heap.size<=a)(q:aF X a 273 [b,f,ς])(x:dU X (F.put a (.kf s.aG.length)) b T)(r:dU X (F.put a (.kf s.aG.length)) f g):
 bE X (F.put a (.kf s.aG.length)) c (lL rb s.aG.length a) {s with aG:=s.aG++[⟨T,g,[]⟩]}/\Fr F (F.put a (.kf s.aG.length)) W X:=by
 have t:=h.bq (t0:=.kf s.aG.length) u w (sZ q (.inr (.inr (.inl rfl))));have m:∀d,d<s.aG.length->lL rb s.aG.length a d=rb d:=λd i=>by unfold lL;rw[Yb (by omega)]
 have v:lL rb s.aG.length a s.aG.length=a:=by unfold lL;rw[Yd rfl]
 refine⟨⟨t.ty,t.fe _ _ h.nS id,t.fe _ _ h.lQ id,t.fe _ _ h.mZ id,t.fe _ _ h.mW id,t.fe _ _ h.mT id,λd i=>?_,t.sm (s:=s) h id,?_,t.rG (s:=s) h id,t.rH (s:=s) h id,?_,λd z j=>?_,λd i=>?_,λp d i=>?_⟩,t.fr⟩
 ·simp only[X4,Ya,Yr]at i;by_cases e:d=s.aG.length
  ·subst e;rw[v];unfold dS.put;rw[Yd rfl]
  rw[m d (by omega)];exact t.fe _ _ (h.lE d (by omega)) id
 ·have⟨A,n,o⟩:=t.tu (s:=s) h id id;exact⟨A,n,o.congr (λd i=>m d (h.pl d i))⟩
 ·have⟨l,n,o,y⟩:=t.rQ (s:=s) h id (λ_=>id);exact⟨l,n,o,λp=>(y p).congr (λd i=>m d (h.ol p d i))⟩
 ·by_cases e:d<s.aG.length
  ·rw[Zh e]at j;rw[m d e];exact t.qC (s:=s) h id id j
  have i:d=s.aG.length:=by
   have:=(Yl.1 j).1;simp only[X4,Ya,Yr]at this;omega
  subst i;rw[YH ax,ta]at j;cases j;rw[v];exact⟨b,f,ς,q,x,r,YG _ _ _ _,λk e=>by cases e⟩
 ·rw[X4];have:=h.pl d i;omega
 rw[X4];have:=h.ol p d i;omega
def bE.Wy(h:bE W F c rb s)(x:a<s.aG.length)(z:jS W c.bb c.nm c.bt c.pb vp s.first)(y:iz W F .bJ vp rb s.bJ)(g:X.ownsRow 0 265 1 b (s.bJ.length+1) (s.bJ.map (dE rb)++[dE rb a]))(n:W.grownBy X vp.ownBlock)(o:b.ownBlock=vp.ownBlock\/b.ownBlock=some W.heap.size):
 bE (X.ψ c.bb 1 b) (F.bG vp b .bJ) c rb {s with bJ:=s.bJ++[a]}/\Fr F (F.bG vp b .bJ) W (X.ψ c.bb 1 b):=by
 have⟨l,r⟩:=h.vA g n y.2 o (.inr (.inr (.inr (.inl rfl))));have i:jS X c.bb c.nm c.bt c.pb vp s.first:=(l.block h h.lQ (λe=>by cases e)).trans z;have m:jS (X.ψ c.bb 1 b) c.bb c.nm c.bt c.pb b s.first:=aF.set i 1 b;have u:some c.bb≠b.ownBlock:=λe=>by have⟨C,B,q⟩:=dZ g c.bb e.symm;unfold jS aF at i;rw[i]at q;cases q
 have d:=l.then (t1:=.bW) (Tn.set (p:=λk=>k=c.bb) X (η c.bb 1) b rfl) h.lQ (.inr (.inr (.inr (sZ m (.inr (.inl rfl))))));refine⟨⟨d.ty,d.fe _ _ h.nS (by simp),l.fe _ _ h.lQ (by simp),d.fe _ _ h.mZ (by simp),d.fe _ _ h.mW (by simp),d.fe _ _ h.mT (by simp),λf j=>d.fe _ _ (h.lE f j) (by simp),d.sm (s:=s) h (by simp),⟨b,m,?_,r⟩,d.rG (s:=s) h (by simp),d.rH (s:=s) h (by simp),d.rQ (s:=s) h (by simp) (by simp),λf A w=>d.qC (s:=s) h (by simp) (by simp) w,λf j=>?_,h.ol⟩,d.fr⟩
 ·have:=cP g u 1 b;simpa using this
 obtain e|e:=Yv.1 j
 ·exact h.pl f e
 rw[Yc]at e;subst e;exact x
def bE.Vk(h:bE W F c rb s)(f:aj):bE (W.ψ c.bb 2 (aK f)) F c rb {s with first:=f}/\Fr F F W (W.ψ c.bb 2 (aK f)):=by have⟨m,g,b⟩:=h.bW;have a:jS (W.ψ c.bb 2 (aK f)) c.bb c.nm c.bt c.pb m f:=aF.set g 2 (aK f);have l:=h.jN (Tn.set (p:=λk=>k=c.bb) W (η c.bb 2) (aK f) rfl) h.lQ (.inr (.inr (.inr (sZ a (.inr (.inl rfl))))));exact⟨⟨l.ty,h.nS,h.lQ,h.mZ,h.mW,h.mT,h.lE,l.sm (s:=s) h (λe=>by cases e),⟨m,a,b.same (l.same h (λe=>by cases e))⟩,l.rG (s:=s) h (λe=>by cases e),l.rH (s:=s) h (λe=>by cases e),l.rQ (s:=s) h (λe=>by cases e) (λ_ e=>by cases e),λj i d=>l.qC (s:=s) h (λe=>by cases e) (λe=>by cases e) d,h.pl,h.ol⟩,l.fr⟩
def bE.W9(h:bE W F c rb s)(D:a<s.aG.length)(I:l.length<=s.tl)(r:∀n,iz W F (.qS n) ((cG l n).getD (ς)) rb (s.of n))(E:(cG l P).getD (ς)=v)(i:X.ownsRow 0 265 1 b ((s.of P).length+1) ((s.of P).map (dE rb)++[dE rb a]))(x:W.grownBy X v.ownBlock)(z:b.ownBlock=v.ownBlock\/b.ownBlock=some W.heap.size)(o:X.mapTurned Y c.bt)(C:bF Y c.bt (fh l P b)):
 bE Y (F.bG v b (.qS P)) c rb {s with of:=od s.of P (s.of P++[a]),tl:=s.tl+1}/\Fr F (F.bG v b (.qS P)) W Y:=by
 have u:=r P;rw[E]at u;have⟨t,A⟩:=h.vA i x u.2 z (.inr (.inr (.inr (.inl rfl))));have m:=mF (p:=λk=>k=c.bt) o rfl;have d:=t.then (t1:=.iL) m h.mW (.inr (.inl rfl));have y:=bI i (λk j=>m.block k (i.lt k j).2 (λe=>by have⟨L,J,q⟩:=dZ i k j;obtain⟨O,G,K,N,w,-⟩:=o;rw[e,w]at q;cases q));refine⟨⟨d.ty,d.fe _ _ h.nS (by simp),d.fe _ _ h.lQ (by simp),d.fe _ _ h.mZ (by simp),t.fe _ _ h.mW (by simp),d.fe _ _ h.mT (by simp),λg f=>d.fe _ _ (h.lE g f) (by simp),d.sm (s:=s) h (by simp),d.tu (s:=s) h (by simp) (by simp),d.rG (s:=s) h (by simp),d.rH (s:=s) h (by simp),⟨_,C,?_,λn=>?_⟩,λg H B=>d.qC (s:=s) h (by simp) (by simp) B,h.pl,λn g f=>?_⟩,d.fr⟩
 ·have:=IZ l P b;show _<=s.tl+1;omega
 ·rw[I9];unfold od;by_cases e:n=P
  ·subst e;simp only[Z8,acq];refine⟨?_,A⟩;simpa using y
  simp only[Yb e,Yb (CU e)];exact(r n).same (d.same h (by simp;exact e))
 simp only[od]at f;split at f
 ·obtain e|e:=Yv.1 f
  ·exact h.ol P g e
  rw[Yc]at e;subst e;exact D
 exact h.ol n g f
def bE.WB(h:bE W F c rb s)(I:s.aG[a]?=some d)(K:aF W (rb a) 273 [m,j,f])(C:dU W F m d.tg)(A:dU W F j d.nd)(J:oi W F (.aI a) f d.cs){x:aj×Nat}(u:X.ownsRow 0 202 2 b (d.cs.length+1) (oJ d.cs++[aK x.1,ι (x.2:Int)]))(B:W.grownBy X f.ownBlock)(D:b.ownBlock=f.ownBlock\/b.ownBlock=some W.heap.size):
 bE (X.ψ (rb a) 2 b) (F.bG f b (.aI a)) c rb {s with aG:=s.aG.set a {d with cs:=d.cs++[x]}}/\Fr F (F.bG f b (.aI a)) W (X.ψ (rb a) 2 b):=by
 have w:=(Yl.1 I).1;have⟨l,E⟩:=h.vA u B J.2 D (.inr (.inr (.inr (.inr rfl))));have y:aF X (rb a) 273 [m,j,f]:=(l.block h (h.lE a w) (λe=>by cases e)).trans K;have z:aF (X.ψ (rb a) 2 b) (rb a) 273 [m,j,b]:=aF.set y 2 b;have H:some (rb a)≠b.ownBlock:=λe=>by have⟨O,N,q⟩:=dZ u (rb a) e.symm;unfold aF at y;rw[y]at q;cases q
 have g:=l.then (t1:=.kf a) (Tn.set (p:=λk=>k=rb a) X (η (rb a) 2) b rfl) (h.lE a w) (.inr (.inr (.inr (sZ z (.inr (.inr (.inl rfl)))))));refine⟨⟨g.ty,g.fe _ _ h.nS (by simp),g.fe _ _ h.lQ (by simp),g.fe _ _ h.mZ (by simp),g.fe _ _ h.mW (by simp),g.fe _ _ h.mT (by simp),λi o=>?_,g.sm (s:=s) h (by simp),g.tu (s:=s) h (by simp) (by simp),g.rG (s:=s) h (by simp),g.rH (s:=s) h (by simp),g.rQ (s:=s) h (by simp) (by simp),λi L r=>?_,λi o=>?_,λn i o=>?_⟩,g.fr⟩
 ·rw[Y7]at o;exact l.fe _ _ (h.lE i o) (by simp)
 ·by_cases e:i=a
  ·subst e;rw[O' w]at r;cases r;refine⟨m,j,b,z,g.pc C,g.pc A,?_,E⟩;rw[Sz,X4];exact cP u H 2 b
  rw[E0 (CU e)]at r;exact g.qC (s:=s) h (by simp;exact e) (by simp;exact e) r
 ·rw[Y7];exact h.pl i o
 rw[Y7];exact h.ol n i o
end
open Classical in
noncomputable def dK(L:NL) (b:aj):Er:=if h:∃a,b_ (di L) (λ_=>none) [] 0 [] b a then h.choose else⟨[],0,0⟩
def J4{a:Er}(h:b_ (di o) (λ_=>none) [] 0 [] n a):dK o n=a:=by have d:∃a,b_ (di o) (λ_=>none) [] 0 [] n a:=⟨a,h⟩;unfold dK;rw[dif_pos d];exact b_.mx d.choose_spec h
def lD(s:St)(b:Nat):Bool:=match s.aG[b]? with|some a=>decide (0<a.cs.length)|none=>false
def gH(s:St)(c:ib)(l:Ln):Nat×St:=match c with
 |none=>(1,s)
 |some b=>match s.aG[b]? with|none=>(1,s)|some a=>if a.cs.length=0/\(a.tg.any λt=>(s.of t).any (lD s))=true then(6,s) else(0,{s with aG:=s.aG.set b {a with cs:=a.cs++[(l.right,l.eK)]}})
noncomputable def iF(s:St) (l:Ln):Nat×St:=
 if l.cK=4 then(0,{s with aX:=kT s.aX l.left ⟨l.right,true⟩})
 else((dK s.aX l.right).er,{s with aX:=kT s.aX l.left ⟨(dK s.aX l.right).bK,false⟩})
def d'(a:Nat)(s:St)(t:aj):St:={s with of:=od s.of t (s.of t++[a]),tl:=s.tl+1}
def mD(s:St)(b:fv)(a:Nat):St:=b.foldl (d' a) (if s.first=[] then {s with first:=b.headD []} else s)
def s7:aj:=[46,80,72,79,78,89]
def bA(s:St)(b a:fv):ib×St:=
 if b=[s7] then(none,{s with ph:=a.foldl lq s.ph})
 else if dc (b.headD [])=true then(some s.aG.length,{s with aG:=s.aG++[⟨b,bR a [],[]⟩],bJ:=s.bJ++[s.aG.length]})
 else(some s.aG.length,mD {s with aG:=s.aG++[⟨b,bR a [],[]⟩]} b s.aG.length)
noncomputable def gJ(s:St) (l:Ln):Nat×ib×St:=
 if(dK s.aX l.left).er≠0 then((dK s.aX l.left).er,none,s)
 else if(dK s.aX l.right).er≠0 then((dK s.aX l.right).er,none,s)
 else if lJ (bQ (dK s.aX l.left).bK) (bQ (dK s.aX l.right).bK)=false then(1,none,s)
 else if s.n=64 then(5,none,s)
 else(0,bA {s with n:=s.n+1} (bQ (dK s.aX l.left).bK) (bQ (dK s.aX l.right).bK))
section
variable (rec:St->aj->Nat×Nat×St) (fs:fy)
def iJ(s:St)(w:aj)(b:Nat):Nat×Nat×St:=match Pl.look fs w with
 |none=>(2,b,s)
 |some a=>
  if s.opn=3 then(3,b,s) else if s.inc=100 then(5,b,s)
  else((rec {s with inc:=s.inc+1,opn:=s.opn+1} a.aU).1,(rec {s with inc:=s.inc+1,opn:=s.opn+1} a.aU).2.1,{(rec {s with inc:=s.inc+1,opn:=s.opn+1} a.aU).2.2 with opn:=(rec {s with inc:=s.inc+1,opn:=s.opn+1} a.aU).2.2.opn-1})
def lj(a:Nat):fv->St->Nat×Nat×St
 |[],s=>(0,0,s)|w::T,s=>if(iJ rec fs s w a).1≠0 then iJ rec fs s w a else lj a T (iJ rec fs s w a).2.2
noncomputable def lH(s:St) (l:Ln):Nat×Nat×St:=if(dK s.aX l.right).er≠0 then((dK s.aX l.right).er,l.eK,s) else lj rec fs l.eK (bQ (dK s.aX l.right).bK) s
noncomputable def eW(s:St) (op:ib) (l:Ln):Nat×Nat×ib×St:=
 if l.cK=1 then((gH s op l).1,l.eK,op,(gH s op l).2)
 else if l.cK=5 then((gJ s l).1,l.eK,(gJ s l).2.1,(gJ s l).2.2)
 else if l.cK=2 then((lH rec fs s l).1,(lH rec fs s l).2.1,none,(lH rec fs s l).2.2)
 else((iF s l).1,l.eK,none,(iF s l).2)
noncomputable def iQ:List (Ln×Nat)->St->ib->Nat×Nat×St
 |[],s,_=>(0,0,s)
 |x::xs,s,op=>
  if x.2≠0 then(x.2,x.1.eK,s)
  else if(eW rec fs s op x.1).1≠0 then((eW rec fs s op x.1).1,(eW rec fs s op x.1).2.1,(eW rec fs s op x.1).2.2.2)
  else iQ xs (eW rec fs s op x.1).2.2.2 (eW rec fs s op x.1).2.2.1
end
noncomputable def jE(fs:fy):Nat->St->aj->Nat×Nat×St
 |0,s,a=>iQ (λs _=>(3,0,s)) fs (eO (dF a)) s none
 |d+1,s,a=>iQ (jE fs d) fs (eO (dF a)) s none
def iO:St:=⟨[],[],[],[],λ_=>[],[],0,0,0,0⟩
noncomputable def cX(fs:fy) (a:aj):Nat×Nat×St:=match Pl.look fs a with|none=>(2,0,iO)|some b=>jE fs 3 iO b.aU
structure En(W:ay)(F:dS)(bx bf bi:Nat)(ve:az)(ef:ga)(fs:fy)(aQ:Int):Prop where
 pw:PW W bx bf bi ve ef fs aQ
 fQ:dq W
 n1:F bx=none
 n2:F bf=none
 n3:F bi=none
 n4:F 0=none
section
variable {F G:dS}{c:Ad}{s:St}{fs:fy}{aQ:Int}
def xe(h:dq W):0<W.heap.size:=by have⟨m,a⟩:=h;exact ZO W _ a
def En.fr(h:En W F bx bf bi ve ef fs aQ)(a:Fr F G W X):En X G bx bf bi ve ef fs aQ:=by
 have i:bi<W.heap.size:=by obtain⟨l,q,-⟩:=h.pw.first;exact q.lt
 have b:=xe h.fQ;refine⟨h.pw.tn a.tn (λe=>e h.n1) (λe=>e h.n2) (λe=>e h.n3),?_,a.fS _ h.pw.row.lt h.n1,a.fS _ h.pw.aW.lt h.n2,a.fS _ i h.n3,a.fS _ b h.n4⟩;have⟨m,d⟩:=h.fQ;refine⟨m,?_⟩;have:=a.tn.block _ b (λe=>e h.n4);unfold World.cell? at*;rw[this];exact d
def En.aD(h:En W F bx bf bi ve ef fs aQ)(a:μ W X):En X F bx bf bi ve ef fs aQ:=h.fr (Fr.aD a)
def bE.inj(h:bE W F c rb s)(f:a<s.aG.length)(d:k<s.aG.length)(e:rb a=rb k):a=k:=by have b:=h.lE a f;rw[e,h.lE k d]at b;cases b;rfl
def iz.XS{t:jq}(h:iz W F t v rb xs):∃a cap b j,v=.slice a (xs.map rb).length cap/\(0<(xs.map rb).length->a=some ⟨b,j,none⟩/\b<W.heap.size/\oC W b j (xs.map rb)):=by
 rw[Yk];obtain⟨f,i⟩|⟨m,cap,w,f,i,q,u⟩:=h.1.2
 ·rw[i];exact⟨none,0,0,0,f,λe=>by omega⟩
 refine⟨some (η m 0),cap,m,0,f,λe=>⟨rfl,(X8.1 q).1,λk r d=>?_⟩⟩;have n:=h.1;rw[f]at n;rw[Za]at d;cases g:xs[k]? with
 |none=>rw[g]at d;cases d
 |some y=>rw[g]at d;cases d;have:=lI n k (by rw[Yk];exact ((Yl.1 g).1));rw[YO,this,YT,(Yl.1 g).2];rfl
open Classical in
def bE.iX(h:bE W F c rb s)(o:∀name,(s.of name).length<=1073741824):∃vp l,vS W c.bb c.nm c.bt c.pb vp s.first l (λn=>(s.of n).map rb) (λb=>decide (∃d,d<s.aG.length/\rb d=b/\lD s d=true)):=by
 have⟨vp,j,B⟩:=h.bW;have⟨l,r,D,k⟩:=h.iL;refine⟨vp,l,j,r,λname=>(k name).XS,λname A q=>?_,λname=>by simp only[Yk];exact o name⟩;obtain⟨d,u,rfl⟩:=YC.1 q;have f:=h.ol name d u;have⟨x,w,H,i,I,E,m⟩:=h.aG d s.aG[d] (X9 f);obtain⟨a,p,rfl⟩:=fp m.1;refine⟨x,w,a,_,p,i,?_⟩;have g:lD s d=decide (0<s.aG[d].cs.length):=by unfold lD;rw[X9 f]
 rw[T8];constructor
 ·rintro⟨C,y,z,t⟩;cases h.inj y f z;rw[g]at t;simpa using t
 intro e;exact⟨d,f,rfl,by rw[g];simpa using e⟩
open Classical in
def bE.any(h:bE W F c rb s)(f:fv):(f.any λt=>((s.of t).map rb).any (λb=>decide (∃a,a<s.aG.length/\rb a=b/\lD s a=true)))=f.any λt=>(s.of t).any (lD s):=by
 congr 1;funext t;rw[List.any_map];rw[ZE,Z1,Z1];constructor
 ·rintro⟨a,d,e⟩;simp only[Function.comp,Zy]at e;have⟨j,g,i,k⟩:=e;cases h.inj g (h.ol t a d) i;exact⟨_,d,k⟩
 rintro⟨a,d,e⟩;exact⟨a,d,by simp only[Function.comp,Zy];exact⟨a,h.ol t a d,rfl,e⟩⟩
end
def QV:(ic n k).bK.length<=2000:=by
 unfold ic;split
 ·simp
 simp only;omega
theorem rz{N:aj->Nv}{d:UInt8->jj}:∀(f:Nat) (m:fv) (k:Nat) (a t:aj) (b:Er),eD N d f m k a t=some b->b.bK.length<=2000
 |0,_,_,_,_,_,h=>by cases h
 |f+1,m,k,a,t,b,h=>by
  rw[eD]at h;split at h
  ·cases h;exact QV
  split at h
  ·cases h;simp
  split at h
  ·exact rz f _ _ _ _ _ h
  split at h
  ·split at h
   ·cases h;simp
   split at h
   ·cases h;simp
   split at h
   ·split at h
    ·cases h;simp
    split at h
    ·cases h
    split at h
    ·exact rz f _ _ _ _ _ h
    cases h;simp
   exact rz f _ _ _ _ _ h
  split at h
  ·cases h;simp
  exact rz f _ _ _ _ _ h
def uD(L:NL)(t:aj):(dK L t).bK.length<=2000:=by
 unfold dK;split
 ·next h=>have⟨f,a⟩:=h.choose_spec;exact rz f _ _ _ _ _ a
 simp
theorem AB:∀(l a:aj),(e_ a l).length<=l.length+(if a.isEmpty then 0 else 1)/\∀x∈e_ a l,x.length<=a.length+l.length
 |[],a=>by unfold e_;cases h:a.isEmpty<;>simp
 |c::f,a=>by
  unfold e_;split
  ·have b:=AB f [];split
   ·simp only[List.isEmpty_nil,Z8,Yr]at b;refine⟨by simp only[Ya];omega,λx d=>?_⟩;have:=b.2 x d;simp only[Ya];omega
   simp only[List.isEmpty_nil,Z8,Yr]at b;refine⟨by simp only[Ya];omega,λx d=>?_⟩;obtain e|e:=YD.1 d
   ·subst e;omega
   have:=b.2 x e;simp only[Ya];omega
  have b:=AB f (a++[c]);have g:(a++[c]).isEmpty=false:=by simp
  rw[g]at b;simp only[YN,Z4,X4,Ya,Yr]at b;refine⟨by simp only[Ya];omega,λx d=>?_⟩;have:=b.2 x d;simp only[Ya];omega
def sL(l:aj):(bQ l).length<=l.length/\∀x∈bQ l,x.length<=l.length:=by have:=AB l [];unfold bQ;simpa using this
theorem oK:∀(l a:fv),(bR l a).length<=l.length+a.length/\∀x∈bR l a,x∈l\/x∈a
 |[],a=>⟨by unfold bR;simp,λx b=> .inr b⟩
 |y::f,a=>by
  unfold bR;split
  ·have d:=oK f a;exact⟨by simp only[Ya];omega,λx b=>(d.2 x b).imp (Yp _) id⟩
  have d:=oK f (a++[y]);simp only[X4,Ya,Yr]at d;refine⟨by simp only[Ya];omega,λx b=>?_⟩;obtain e|e:=d.2 x b
  ·exact .inl (Yp _ e)
  obtain e|e:=Yv.1 e
  ·exact .inr e
  rw[Yc]at e;subst e;exact .inl (Yq ..)
structure zn(r:Rl):Prop where
 ne:r.tg≠[]
 tl:r.tg.length<=2000
 nl:r.nd.length<=2000
 tw:∀x∈r.tg,x.length<=2000
 nw:∀x∈r.nd,x.length<=2000
 cw:∀y∈r.cs,y.1.length<=1073741824
structure Ok(s:St)(k:Nat):Prop where
 mI:mh s.aX
 nl:s.aX.length<=k
 ol:∀name,(s.of name).length<=s.tl
 tl:s.tl<=2000*s.n
 jo:s.n<=64
 ph:s.ph.length<=2000*s.n
 pt:s.bJ.length<=s.n
 rl:s.aG.length<=s.n
 cl:∀r∈s.aG,r.cs.length<=k
 rs:∀r∈s.aG,zn r
 inc:s.inc<=100
def Ok.up{s:St}(h:Ok s k)(b:k<=a):Ok s a:=⟨h.mI,Ye h.nl b,h.ol,h.tl,h.jo,h.ph,h.pt,h.rl,λd e=>Ye (h.cl d e) b,h.rs,h.inc⟩
def Ok.assign{s:St}(h:Ok s k)(d:e.right.length<=1073741824):Ok (iF s e).2 (k+1):=by
 have:=uD s.aX e.right;unfold iF;split
 ·refine⟨AH _ _ d _ h.mI,?_,h.ol,h.tl,h.jo,h.ph,h.pt,h.rl,λa b=>H6 (h.cl a b),h.rs,h.inc⟩;have:=B0 e.left ⟨e.right,true⟩ s.aX;have:=h.nl;simp only;omega
 refine⟨AH _ _ (by simp only;omega) _ h.mI,?_,h.ol,h.tl,h.jo,h.ph,h.pt,h.rl,λa b=>H6 (h.cl a b),h.rs,h.inc⟩;have:=B0 e.left ⟨(dK s.aX e.right).bK,false⟩ s.aX;have:=h.nl;simp only;omega
def Pa(s:St)(l:Ln):(iF s l).2.inc=s.inc/\(iF s l).2.opn=s.opn/\(iF s l).2.aG.length=s.aG.length:=by unfold iF;split<;>exact⟨rfl,rfl,rfl⟩
def Ok.uE{s:St}(h:Ok s k)(i:e.right.length<=1073741824):Ok (gH s q e).2 (k+1):=by
 unfold gH;split
 ·exact h.up (l' _)
 split
 ·exact h.up (l' _)
 rename_i n _ a m;split
 ·exact h.up (l' _)
 have f:=Z5 m;have b:=h.rs a f;have g:∀x∈s.aG.set n {a with cs:=a.cs++[(e.right,e.eK)]},x∈s.aG\/x={a with cs:=a.cs++[(e.right,e.eK)]}:=λx d=>HJ d;refine⟨h.mI,H6 h.nl,h.ol,h.tl,h.jo,h.ph,h.pt,by simp only[Y7];exact h.rl,λx d=>?_,λx d=>?_,h.inc⟩
 ·obtain c|c:=g x d
  ·exact H6 (h.cl x c)
  subst c;have:=h.cl a f;simp only[X4,Ya,Yr];omega
 obtain c|c:=g x d
 ·exact h.rs x c
 subst c;refine⟨b.ne,b.tl,b.nl,b.tw,b.nw,λy j=>?_⟩;obtain c|c:=Yv.1 j
 ·exact b.cw y c
 rw[Yc]at c;subst c;exact i
def N7(s:St)(a:ib)(l:Ln):(gH s a l).2.inc=s.inc/\(gH s a l).2.opn=s.opn/\(gH s a l).2.aG.length=s.aG.length:=by
 unfold gH;split
 ·exact⟨rfl,rfl,rfl⟩
 split
 ·exact⟨rfl,rfl,rfl⟩
 split
 ·exact⟨rfl,rfl,rfl⟩
 exact⟨rfl,rfl,by simp⟩
theorem qh(a:Nat):∀(tg:fv) (s:St),(tg.foldl (d' a) s).aX=s.aX/\(tg.foldl (d' a) s).aG=s.aG/\(tg.foldl (d' a) s).bJ=s.bJ/\(tg.foldl (d' a) s).first=s.first/\(tg.foldl (d' a) s).ph=s.ph/\(tg.foldl (d' a) s).n=s.n/\(tg.foldl (d' a) s).inc=s.inc/\(tg.foldl (d' a) s).opn=s.opn/\(tg.foldl (d' a) s).tl=s.tl+tg.length/\((∀n,(s.of n).length<=s.tl)->∀n,((tg.foldl (d' a) s).of n).length<=s.tl+tg.length)
 |[],s=>⟨rfl,rfl,rfl,rfl,rfl,rfl,rfl,rfl,rfl,λh=>h⟩
 |t::b,s=>by
  have⟨f,d,i,q,u,j,r,g,k,o⟩:=qh a b (d' a s t);rw[YP];refine⟨f,d,i,q,u,j,r,g,?_,λh n=>?_⟩
  ·rw[k];show s.tl+1+b.length=_;simp only[Ya];omega
  have:=o (λm=>by
   show(od s.of t (s.of t++[a]) m).length<=s.tl+1;unfold od;have f:=h t;have d:=h m;split
   ·simp only[X4,Ya,Yr];omega
   omega) n
  have e:(d' a s t).tl=s.tl+1:=rfl;rw[e]at this;simp only[Ya];omega
def Ok.add{s:St}(h:Ok s k)(R:s.n<64)(E:T≠[])(B:T.length<=2000)(Q:g.length<=2000)(D:∀x∈T,x.length<=2000)(H:∀x∈g,x.length<=2000):Ok (bA {s with n:=s.n+1} T g).2 k:=by
 have N:=h.tl;have S:=h.ph;have O:=h.pt;have P:=h.rl;have w:=oK g [];have i:zn ⟨T,bR g [],[]⟩:=⟨E,B,by have:=w.1;simp only[Yr]at this;simp only;omega,D,λx L=>(w.2 x L).elim (H x) (λe=>(by cases e)),λy K=>(by cases K)⟩;have l:∀a∈s.aG++[⟨T,bR g [],[]⟩],a.cs.length<=k:=λa i=>by
  obtain e|e:=Yv.1 i
  ·exact h.cl a e
  rw[Yc]at e;subst e;simp
 have z:∀a∈s.aG++[⟨T,bR g [],[]⟩],zn a:=λa C=>by
  obtain e|e:=Yv.1 C
  ·exact h.rs a e
  rw[Yc]at e;subst e;exact i
 unfold bA;split
 ·refine⟨h.mI,h.nl,h.ol,by simp only;omega,by simp only;omega,?_,by simp only;omega,by simp only;omega,h.cl,h.rs,h.inc⟩;have:=Al g s.ph;simp only;omega
 split
 ·exact⟨h.mI,h.nl,h.ol,by simp only;omega,by simp only;omega,by simp only;omega,by simp only[X4,Ya,Yr];omega,by simp only[X4,Ya,Yr];omega,l,z,h.inc⟩
 unfold mD;simp only;have c:∀f:aj,Ok (T.foldl (d' s.aG.length) {s with n:=s.n+1,aG:=s.aG++[⟨T,bR g [],[]⟩],first:=f}) k:=λf=>by have⟨m,d,r,J,u,b,o,A,j,I⟩:=qh s.aG.length T {s with n:=s.n+1,aG:=s.aG++[⟨T,bR g [],[]⟩],first:=f};have q:=I h.ol;simp only at m d r J u b o A j q;exact⟨by rw[m];exact h.mI,by rw[m];exact h.nl,λn=>by rw[j];exact q n,by rw[j,b];omega,by rw[b];omega,by rw[u,b];omega,by rw[r,b];omega,by rw[d,b,X4,Ya,Yr];omega,by rw[d];exact l,by rw[d];exact z,by rw[o];exact h.inc⟩
 split
 ·exact c _
 exact c s.first
def U'(s:St)(c a:fv):(bA s c a).2.inc=s.inc/\(bA s c a).2.opn=s.opn/\(bA s c a).2.aX=s.aX/\s.aG.length<=(bA s c a).2.aG.length/\∀b,(bA s c a).1=some b->b<(bA s c a).2.aG.length:=by
 unfold bA;split
 ·exact⟨rfl,rfl,rfl,X0 _,λb e=>by cases e⟩
 split
 ·exact⟨rfl,rfl,rfl,by simp,λb e=>by cases e;simp⟩
 unfold mD;simp only;split
 ·have⟨g,d,k,i,n,o,h,f,j,m⟩:=qh s.aG.length c {s with aG:=s.aG++[⟨c,bR a [],[]⟩],first:=c.headD []};exact⟨h,f,g,by rw[d];simp,λb e=>by cases e;rw[d];simp⟩
 have⟨g,d,k,i,n,o,h,f,j,m⟩:=qh s.aG.length c {s with aG:=s.aG++[⟨c,bR a [],[]⟩]};exact⟨h,f,g,by rw[d];simp,λb e=>by cases e;rw[d];simp⟩
def Ok.kf{s:St}(h:Ok s k)(l:Ln):Ok (gJ s l).2.2 k:=by
 unfold gJ;split
 ·exact h
 split
 ·exact h
 split
 ·exact h
 next hs=>
 split
 ·exact h
 next hn=>
 have b:=sL (dK s.aX l.left).bK;have d:=sL (dK s.aX l.right).bK;have g:=uD s.aX l.left;have i:=uD s.aX l.right;have f:bQ (dK s.aX l.left).bK≠[]:=λe=>by apply hs;unfold lJ;rw[e];simp
 exact h.add (by have:=h.jo;omega) f (by omega) (by omega) (λx a=>by have:=b.2 x a;omega) (λx a=>by have:=d.2 x a;omega)
def S6(s:St)(l:Ln):(gJ s l).2.2.inc=s.inc/\(gJ s l).2.2.opn=s.opn/\s.aG.length<=(gJ s l).2.2.aG.length/\∀a,(gJ s l).2.1=some a->a<(gJ s l).2.2.aG.length:=by
 unfold gJ;split
 ·exact⟨rfl,rfl,X0 _,λa e=>by cases e⟩
 split
 ·exact⟨rfl,rfl,X0 _,λa e=>by cases e⟩
 split
 ·exact⟨rfl,rfl,X0 _,λa e=>by cases e⟩
 split
 ·exact⟨rfl,rfl,X0 _,λa e=>by cases e⟩
 have⟨d,f,h,b,g⟩:=U' {s with n:=s.n+1} (bQ (dK s.aX l.left).bK) (bQ (dK s.aX l.right).bK);exact⟨d,f,b,g⟩
theorem J':∀l:List (Ln×Nat),12*l.length<=qK l
 |[]=>X0 _
 |x::a=>by have:=J' a;unfold qK at*;rw[YE,ri,Ya];omega
def AZ(t:aj):(eO (dF t)).length<=t.length+1:=by have:=J' (eO (dF t));have:=RA t;omega
structure lp(M:Nat)(s:St)(k:Nat)(s':St)(add:Nat):Prop where
 ok:∃k',Ok s' k' /\k' +(100-s'.inc)*M<=k+(100-s.inc)*M+add
 opn:s'.opn=s.opn
 rl:s.aG.length<=s'.aG.length
def pR(M:Nat)(rec:St->aj->Nat×Nat×St):Prop:=∀(s:St) (k:Nat) (a:aj),Ok s k->a.length+1<=M->a.length<=1073741824->lp M s k (rec s a).2.2 M
def lp.refl{M:Nat}{s:St}{k:Nat}(h:Ok s k)(a:Nat):lp M s k s a:=⟨⟨k,h,by omega⟩,rfl,X0 _⟩
section
variable {rec:St->aj->Nat×Nat×St}{fs:fy}
def Ib(o:pR M rec)(f:∀p d,Pl.look fs p=some d->d.aU.length+1<=M/\d.aU.length<=1073741824){s:St}(h:Ok s k)(w:aj)(u:Nat):lp M s k (iJ rec fs s w u).2.2 0:=by
 unfold iJ;split
 ·exact lp.refl h 0
 next d hg=>
 split
 ·exact lp.refl h 0
 split
 ·exact lp.refl h 0
 next h1 h2=>
 have:=h.inc;have i:Ok {s with inc:=s.inc+1,opn:=s.opn+1} k:=⟨h.mI,h.nl,h.ol,h.tl,h.jo,h.ph,h.pt,h.rl,h.cl,h.rs,by simp only;omega⟩;have⟨⟨m,a,j⟩,n,q⟩:=o _ k d.aU i (f w d hg).1 (f w d hg).2;refine⟨⟨m,⟨a.mI,a.nl,a.ol,a.tl,a.jo,a.ph,a.pt,a.rl,a.cl,a.rs,a.inc⟩,?_⟩,?_,q⟩
 ·simp only at j⊢;have:(100-s.inc)*M=(100-(s.inc+1))*M+M:=by
   obtain⟨b,g⟩:∃b,100-s.inc=b+1:=⟨99-s.inc,by omega⟩;have r:100-(s.inc+1)=b:=by omega
   rw[g,r,l5]
  omega
 simp only at n⊢;omega
theorem F_(f:pR M rec)(e:∀p a,Pl.look fs p=some a->a.aU.length+1<=M/\a.aU.length<=1073741824)(b:Nat):∀(T:fv) (s:St) (k:Nat),Ok s k->lp M s k (lj rec fs b T s).2.2 0
 |[],s,k,h=>lp.refl h 0
 |w::T,s,k,h=>by
  have d:=Ib f e h w b;unfold lj;split
  ·exact d
  have⟨⟨j,m,x⟩,o,q⟩:=d;have⟨⟨r,n,u⟩,g,i⟩:=F_ f e b T _ j m;exact⟨⟨r,n,by omega⟩,g.trans o,Ye q i⟩
def Ng(d:pR M rec)(b:∀p a,Pl.look fs p=some a->a.aU.length+1<=M/\a.aU.length<=1073741824){s:St}(h:Ok s k)(l:Ln):lp M s k (lH rec fs s l).2.2 0:=by
 unfold lH;split
 ·exact lp.refl h 0
 exact F_ d b _ _ _ _ h
def Ji(u:pR M rec)(o:∀p g,Pl.look fs p=some g->g.aU.length+1<=M/\g.aU.length<=1073741824){s:St}(h:Ok s k)(c:∀a,q=some a->a<s.aG.length){l:Ln}(i:l.right.length<=1073741824):
 lp M s k (eW rec fs s q l).2.2.2 1/\∀a,(eW rec fs s q l).2.2.1=some a->a<(eW rec fs s q l).2.2.2.aG.length:=by
 unfold eW;split
 ·have⟨b,d,f⟩:=N7 s q l;exact⟨⟨⟨k+1,h.uE i,by simp only;rw[b];omega⟩,d,by simp only;omega⟩,λa e=>by simp only at e⊢;rw[f];exact c a e⟩
 split
 ·have⟨b,d,f,n⟩:=S6 s l;exact⟨⟨⟨k,h.kf l,by simp only;rw[b];omega⟩,d,f⟩,n⟩
 split
 ·have⟨⟨j,m,x⟩,r,w⟩:=Ng u o h l;exact⟨⟨⟨j,m,by simp only;omega⟩,r,w⟩,λa e=>by cases e⟩
 have⟨b,d,f⟩:=Pa s l;exact⟨⟨⟨k+1,h.assign i,by simp only;rw[b];omega⟩,d,by simp only;omega⟩,λa e=>by cases e⟩
theorem A0(i:pR M rec)(g:∀p d,Pl.look fs p=some d->d.aU.length+1<=M/\d.aU.length<=1073741824):∀(xs:List (Ln×Nat)) (s:St) (op:ib) (k:Nat),Ok s k->(∀m,op=some m->m<s.aG.length)->(∀x∈xs,x.1.right.length<=1073741824)->lp M s k (iQ rec fs xs s op).2.2 xs.length
 |[],s,op,k,h,_,_=>lp.refl h _
 |x::xs,s,op,k,h,u,j=>by
  have⟨n,w⟩:=Ji i g h u (j x (Yq ..));unfold iQ;split
  ·exact lp.refl h _
  split
  ·have⟨⟨e,f,B⟩,a,b⟩:=n;exact⟨⟨e,f,by simp only[Ya];omega⟩,a,b⟩
  have⟨⟨e,f,B⟩,a,b⟩:=n;have⟨⟨A,q,C⟩,o,r⟩:=A0 i g xs _ _ e f w (λy z=>j y (Yp _ z));exact⟨⟨A,q,by simp only[Ya];omega⟩,o.trans a,Ye b r⟩
theorem B1(j:∀p f,Pl.look fs p=some f->f.aU.length+1<=M/\f.aU.length<=1073741824):∀d,pR M (jE fs d)
 |0=>λs k a h q b=>by have:=AZ a;have⟨⟨g,i,r⟩,m,n⟩:=A0 (M:=M) (rec:=λs _=>(3,0,s)) (fs:=fs) (λs k a h _ _=>lp.refl h M) j (eO (dF a)) s none k h (λw e=>by cases e) (λx o=>Ye (B9 o).2.1 b);exact⟨⟨g,i,by show _<=_;unfold jE;omega⟩,m,n⟩
 |d+1=>λs k a h q b=>by have:=AZ a;have⟨⟨g,i,r⟩,m,n⟩:=A0 (B1 j d) j (eO (dF a)) s none k h (λw e=>by cases e) (λx o=>Ye (B9 o).2.1 b);exact⟨⟨g,i,by show _<=_;unfold jE;omega⟩,m,n⟩
end
def DQ:Ok iO 0:=⟨λx d=>(by cases d),X0 _,λ_=>X0 _,X0 _,by decide,X0 _,X0 _,X0 _,λb a=>(by cases a),λb a=>(by cases a),by decide⟩
section
variable {F G:dS}{c:Ad}{s:St}
def K0(h:bE W F c rb s)(i:s.aX.length<4294967296)(k:aj)(v:Nv):∃a,(Instr.mapUpdate 137 (.map (some c.nm)) (σ k) (.agg #[σ v.aU,.bool v.oA])).run prog W=.ok () a/\bE a F c rb {s with aX:=kT s.aX k v}/\Fr F F W a:=by have⟨a,e,b,g⟩:=h.aX.put ab2 Yj (by unfold ja maxLen;rw[Yk];omega) k (lS v);rw[Hb]at b;have⟨d,f⟩:=h.Un g b;exact⟨a,e,d,f⟩
def AW(a:aj)(h:bE W F c rb s)(g:mh s.aX)(f:dq W)(b:a.length<=1073741824):
 γ 182 #[π c.rd,σ a] W (.tuple #[.string ⟨(dK s.aX a).bK.toArray⟩,ι ((dK s.aX a).er:Int)]):=by obtain⟨l,j,-⟩:=h.bW;refine(MN c.rd c.bb c.nm c.bt c.pb l _ _ _ _ s.first a s.aX W h.row j h.aX g f b).mono ?_;rintro e w⟨k,i,rfl,-,d⟩;rw[J4 i];exact⟨rfl,d⟩
def Om(l:Ln)(h:bE W F c rb s)(M:mh s.aX)(P:s.aX.length<4294967296)(A:dq W)(D:l.right.length<=1073741824):
 Calls prog 139 #[π c.rd,dQ l] W λe W'=>e=.returned (ι ((iF s l).1:Int))/\bE W' F c rb (iF s l).2/\Fr F F W W':=by
 have⟨d,b,L,a⟩:=l;obtain⟨vp,r,-⟩:=h.bW;have K:=h.row.cell? (i:=1) rfl;have E:=aF.cell? (i:=0) r rfl;have l1:=h.row.lt;have l2:=aF.lt r;by_cases q:b=4
 ·have G:((b:Int)==4)=true:=by rw[Zj];omega
  have m:iF s ⟨d,b,L,a⟩=(0,{s with aX:=kT s.aX L ⟨a,true⟩}):=by unfold iF;rw[Yd q]
  rw[m];have z:Below W.heap.size W (((W.alloc (.cells #[ι d,ι b,σ L,σ a] 164)).alloc (.cells #[σ a,.bool true] 307)).drew):=(((ak W _).alloc (by simp) _).drew);have⟨t,w,o,n⟩:=K0 (h.aD z) P L ⟨a,true⟩;have B:=(Fr.aD z).trans n;simp only at w;clear n h m q z r;go_in;unfold dQ;go_wp2
  go_region
  all_goals go_wp2
  all_goals go_ret
  all_goals exact⟨rfl,o,B⟩
 have G:((b:Int)==4)=false:=by rw[Yi];omega
 have k:Below W.heap.size W ((W.alloc (.cells #[ι d,ι b,σ L,σ a] 164)).alloc (.cells #[σ a,.bool false] 307)):=(ak W _).alloc (by simp) _;have m:iF s ⟨d,b,L,a⟩=((dK s.aX a).er,{s with aX:=kT s.aX L ⟨(dK s.aX a).bK,false⟩}):=by unfold iF;rw[Yb q]
 rw[m];have I:aF ((W.alloc (.cells #[ι d,ι b,σ L,σ a] 164)).alloc (.cells #[σ a,.bool false] 307)) W.heap.size 164 [ι d,ι b,σ L,σ a]:=(aF.bq W 164 [_,_,_,_]).alloc _;have x:aF ((W.alloc (.cells #[ι d,ι b,σ L,σ a] 164)).alloc (.cells #[σ a,.bool false] 307)) (W.heap.size+1) 307 [σ a,.bool false]:=by have:=aF.bq (W.alloc (.cells #[ι d,ι b,σ L,σ a] 164)) 307 [σ a,.bool false];rw[X_]at this;exact this
 have S:=AW a (h.aD k) M (A.aD k) D;have T:Hid (∀j,Below ((W.alloc (.cells #[ι d,ι b,σ L,σ a] 164)).alloc (.cells #[σ a,.bool false] 307)).heap.size ((W.alloc (.cells #[ι d,ι b,σ L,σ a] 164)).alloc (.cells #[σ a,.bool false] 307)) j->
  aF j (W.heap.size+1) 307 [σ a,.bool false]/\∃f,f=j.setCell ⟨W.heap.size+1,0,none⟩ (.string ⟨(dK s.aX a).bK.toArray⟩)/\aF f (W.heap.size+1) 307 [.string ⟨(dK s.aX a).bK.toArray⟩,.bool false]/\aF f W.heap.size 164 [ι d,ι b,σ L,σ a]/\bE f F c rb s/\Fr F F W f):=λj g=>by
  have Z:=k.size;have V:=k.trans (g.mono Z);have O:=V.setCell (p:=⟨W.heap.size+1,0,none⟩) (by simp) (.string ⟨(dK s.aX a).bK.toArray⟩);exact⟨x.aD g,_,rfl,(x.aD g).set 0 _,(I.aD g).dI (by omega) _ _,h.aD O,Fr.aD O⟩
 clear m q r h I x k;go_in;unfold dQ;generalize dK s.aX a=U at*;go_wp2_with (go_at_call 182;refine S.mono ?_;clear S;rintro e j⟨rfl,g⟩;have⟨y,f,H,C,J,Q,R⟩:=T j g;have Y:=y.cell? (i:=0) rfl;have v:=y.frozen 0;have X:=aC H;clear y H g K E)
 rw[<-X.u];obtain⟨ac,N,-⟩:=Q.bW;have K:=Q.row.cell? (i:=1) rfl;have E:=aF.cell? (i:=0) N rfl;have v0:=C.cell? (i:=0) rfl;have v1:=C.cell? (i:=1) rfl;have l3:=J.cell? (i:=2) rfl;have⟨t,w,o,n⟩:=K0 (Q.aD (X5 _ f).drew) P L ⟨U.bK,false⟩;have B:=(R.trans (Fr.aD (X5 _ f).drew)).trans n;simp only at w;clear n Y v T N;go_region
 all_goals go_wp2
 all_goals go_ret
 all_goals exact⟨rfl,o,B⟩
end


