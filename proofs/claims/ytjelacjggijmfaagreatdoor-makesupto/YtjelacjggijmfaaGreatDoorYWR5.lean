/- . -/
import Derived.Test.YtjelacjggijmfaaGreatDoorYWR2
import Derived.Laws.CopyOwn
import Derived.Lib.SlBytesConst
set_option linter.all false
set_option maxHeartbeats 2000000
set_option maxRecDepth 100000
namespace Go.Proofs.YtjelacjggijmfaaGreatDoor
open Pl Mk Cp Proofs.Tryz
open RowKit MapKept ChangeMaps Maps
variable {g i vs vc:az}{c f W:ay}{a B wb nb m q w x:Nat}{p n:Wr}{d b:f'}{h j:aj}{k:fv}
abbrev eh:=List (aj×Nat)
def iH(a:eh):dr:=a.map λx=>(x.1,ι (x.2:Int))
def bP(a:eh)(k:aj):Nat:=((a.find? λx=>x.1==k).map (·.2)).getD 0
theorem B4(k:aj):∀a:eh,(cG (iH a) k).getD (ι 0)=ι (bP a k:Int)
 |[]=>rfl
 |x::b=>by
  unfold cG iH bP at*;rw[YE,Zt,Zt];cases d:(x.1==k) with
  |true=>simp|false=>simp only;exact (B4 k b)
def F8(k:aj)(n:Nat)(c:0<n)(a:eh)(h:∀x∈a,x.2<n):bP a k<n:=by
 unfold bP;cases b:a.find? (λx=>x.1==k) with
 |none=>exact c
 |some x=>exact h _ (YV b)
def yX(p:Wr)(s:aj):p.bh s<=p.a_.length:=by
 unfold Wr.bh;cases a:p.a_.findIdx? (λx=>x==s) with
 |none=>exact X0 _
 |some b=>exact lg (YM.1 a).1
def yP(p:Wr)(s:aj):(p.dd s).a_.length<=p.a_.length+1:=by
 unfold Wr.dd;cases a:p.a_.findIdx? (λx=>x==s) with
 |none=>simp|some b=>simp
def oL(p:Wr)(s:aj):(p.dd s).bk=p.bk:=by
 unfold Wr.dd;cases a:p.a_.findIdx? (λx=>x==s) with
 |none=>rfl|some b=>rfl
theorem FT(p:Wr)(c:Nat)(b:gb):∀a,(nF p c b a).a_=p.a_
 |0=>rfl|a+1=>FT p c b a
def cy(p:Wr)(b:Nat)(a:gb):Wr:=nF p b a 2
def nY(p:Wr)(b:Nat)(a:gb):(cy p b a).bk.length<=p.bk.length+5:=A5 p b a 2
def iD(p:Wr)(b:Nat)(a:gb):(cy p b a).a_=p.a_:=FT p b a 2
def gu(b:eh)(c:Nat)(q:Wr)(a:aj):Wr:=cy (cy ((cy (cy q 4 [bP b a]) 5 []).dd a) 3 [c,(cy (cy q 4 [bP b a]) 5 []).bh a]) 5 []
def iR(a:eh)(p:Wr)(c:Bool)(d:aj)(b:fv):Wr:=if c then cy p 1 [1] else b.foldl (gu a (p.bh d)) (cy (p.dd d) 2 [p.bh d])
def L7(b:eh)(c:Nat)(q:Wr)(a:aj):(gu b c q a).a_.length<=q.a_.length+1:=by unfold gu;rw[iD,iD];refine Ye (yP _ _) ?_;rw[iD,iD];exact X0 _
def Mt(b:eh)(c:Nat)(q:Wr)(a:aj):(gu b c q a).bk.length<=q.bk.length+20:=by unfold gu;have:=nY q 4 [bP b a];have:=nY (cy q 4 [bP b a]) 5 [];have d:=nY ((cy (cy q 4 [bP b a]) 5 []).dd a) 3 [c,(cy (cy q 4 [bP b a]) 5 []).bh a];have:=nY (cy ((cy (cy q 4 [bP b a]) 5 []).dd a) 3 [c,(cy (cy q 4 [bP b a]) 5 []).bh a]) 5 [];rw[oL]at d;omega
theorem zW(b:eh)(a:Nat):∀(c:fv) (q:Wr),(c.foldl (gu b a) q).a_.length<=q.a_.length+c.length/\(c.foldl (gu b a) q).bk.length<=q.bk.length+20*c.length
 |[],q=>⟨X0 _,X0 _⟩
 |n::d,q=>by have:=zW b a d (gu b a q n);have:=L7 b a q n;have:=Mt b a q n;rw[YP,Ya];omega
def FK(b:eh)(p:Wr)(c:Bool)(f:aj)(a:fv):(iR b p c f a).a_.length<=p.a_.length+1+a.length/\(iR b p c f a).bk.length<=p.bk.length+5+20*a.length:=by
 unfold iR;cases c with
 |true=>rw[Yd rfl,iD];have:=nY p 1 [1];omega
 |false=>simp only[YN,Z4];have e:=zW b (p.bh f) a (cy (p.dd f) 2 [p.bh f]);have d:=nY (p.dd f) 2 [p.bh f];have:=yP p f;rw[iD]at e;rw[oL]at d;omega
section
def Lh(B f g:Nat)(p:Wr)(d i:az)(W:ay)(h:Nat)(c:gb)(e:Ending)(b:ay):Prop:=e=.returned (.tuple #[])/\∃a,ed b B f g (cy p h c) d a /\fM f g d i d a W b
def Cz(h:ed W B wb nb p vs vc)(c:B<=W.heap.size)(b:p.bk.length<=1073741824)(g:Nat)(a:Int)(d:a=g)(f:g<256):
 Calls prog 100 #[π wb,.int .u8 a,ς] W (Lh B wb nb p vs vc W g []):=by subst d;exact Ht B wb nb p vs vc g [] none 0 0 W h c f (by simp) (by simp) (λe=>absurd e (by simp)) b
def vd(h:ed W B wb nb p vs vc)(s:B<=W.heap.size)(r:p.bk.length<=1073741824)(e:Nat)(c:Int)(f:c=e)(l:e<256)(a:gb)(o:∀x∈a,x<2147483648)(g:a.length<=2)(n:Nat)(m:n=a.length)(N:Nat)(t:N=W.heap.size)(d:hZ)(k:d=(a.map λx:Nat=>ι x).toArray):
 Calls prog 100 #[π wb,.int .u8 c,ξ N n n] (W.alloc (.cells d 3)) (Lh B wb nb p vs vc W e a):=by subst f;subst m;subst t;subst k;have b:=(X5 W.heap.size W).alloc ax (.cells (a.map λx:Nat=>ι x).toArray 3);refine κ (Ht B wb nb p vs vc e a (some (η W.heap.size 0)) a.length W.heap.size _ (h.aD b) (Ye s b.size) l o g (λ_=>⟨rfl,aF.bq W _ _⟩) r) λu⟨j,q,i⟩=>?_;exact⟨rfl,j,q,(fM.aD b).trans i⟩
def ed.size(h:ed W B wb nb p vs vc):wb<W.heap.size/\nb<W.heap.size:=⟨h.row.lt,h.pf.lt⟩
def fM.aP(h:ed W B wb nb p vs vc)(L:fM wb nb vs vc g i W c)(b:a<=wb)(d:a<=nb):Below a W c:=
 L.tn.aP (Ye b (lg h.size.1)) (λk e=>by
  have:=h.wB;obtain e|e|e|e:=e
  ·omega
  ·omega
  ·have:=(h.a_.lt k e.symm).1;omega
  have:=(h.bk.lt k e.symm).1;omega)
def bF.kn{f:dr}(b:bF W a f)(h:ed W B wb nb p vs vc)(k:fM wb nb vs vc g i W c)(d:a<B)(j:a≠nb):bF c a f:=
 b.tn k.tn (λe=>by
  obtain e|e|e|e:=e
  ·exact nV h.row b e.symm
  ·exact j e
  ·exact cQ h.a_ d e
  exact cQ h.bk d e)
end
def s_(e:aj)(c:Bool)(d b:az)(a:aj):az:=.agg #[aK e,.bool c,d,b,aK a]
def eE(W:ay)(b c:Nat)(d:fv):Prop:=∀(a:Nat) (x:aj),d[a]?=some x->W.cell? ⟨b,c+a,none⟩=some (aK x)
def eE.aP(h:eE W B a k)(i:Below wb W c)(f:B<wb):eE c B a k:=λe x g=>(i.cell (p:=η B (a+e)) f).trans (h e x g)
def pk(W:ay)(B c d:Nat)(f e:az)(q:Wr)(wr:ay):Prop:=∃b a,ed wr B c d q b a /\fM c d f e b a W wr
def Mf(B L wb nb i:Nat)(p:Wr)(vs vc:az)(c:eh)(name H:aj)(k:Bool)(d:fv)(a:fY)(cap b O:Nat)(s:az)(W:ay)(h:ed W B wb nb p vs vc)(hB:B<=W.heap.size)(aR:L<=wb)(a6:L<=nb)(hf:bF W i (iH c))(ap:i<B)(aL:i≠nb)(ag:∀x∈c,x.2<2147483648)(ha:0<d.length->a=some ⟨b,O,none⟩/\b<L/\eE W b O d)(hn:d.length<=1000)(bi:p.a_.length<=1000000)(a5:p.bk.length<=1000000000):
 Calls prog 97 #[π wb,s_ name k (.slice a d.length cap) s H,.map (some i)] W λe W'=>e=.returned (.tuple #[])/\pk W B wb nb vs vc (iR c p k name d) W':=by
 have zi:∀w,(zeroValue 3).run prog w=.ok (ι 0) w:=λw=>by kernel_rfl
 have n:=(X5 W.heap.size W).alloc ax (.cells #[aK name,.bool k,.slice a d.length cap,s,aK H] 197);have r:=h.aD n;have HT:=fM.aD (wb:=wb) (nb:=nb) (vs:=vs) (vc:=vc) n;have o:=Ye hB n.size;have aT:=aC ag;have HA:=aC ha;clear ha ag;cases k with
 |true=>
  have m:iR c p true name d=cy p 1 [1]:=rfl;rw[m];have I:=vd r o (by omega) 1 1 rfl (by decide) [1] (by simp) (by simp) 1 rfl (W.heap.size+1) (X_ _ _).symm #[ι 1] rfl;unfold s_ aK at*;go_in;go_wp2_with (go_at_call 100;refine I.mono ?_;rintro e w1⟨rfl,br,l,g⟩)
  refine Yw (Zr rfl _ _ _) rfl ?_;exact⟨rfl,_,_,l,HT.trans g⟩
 |false=>
  have m:iR c p false name d=d.foldl (gu c (p.bh name)) (cy (p.dd name) 2 [p.bh name]):=rfl;rw[m];have ao:=aF.bq W 197 [aK name,.bool false,.slice a d.length cap,s,aK H];have:=yX p name;have I:=zY B wb nb p vs vc name _ r o (by omega);have:(p.dd name).bk.length<=1000000000:=by rw[oL];exact a5
  have:(p.dd name).a_.length<=1000001:=by have:=yP p name;omega
  have aM:=zW c (p.bh name);unfold s_ aK at*;go_in;go_wp2_with (first|(go_at_call 101;refine I.mono ?_;rintro e w1⟨rfl,a8,l,g⟩;have aY:=Ye o g.tn.size;have aG:=HT.trans g;have aW:=ao.kn r g (by decide) (by decide) (by decide);clear g)|(go_at_call 100;refine(vd l aY (by omega) 2 2 rfl (by decide) [p.bh name] (by intro x Z;rw[Yc]at Z;omega) (by simp) 1 rfl _ rfl #[ι (p.bh name)] rfl).mono ?_;rintro e w2⟨rfl,bf,af,A⟩;have c2:=(aW.kn l A (by decide) (by decide) (by decide)).cell? (i:=2) rfl;have P:pk W B wb nb vs vc (cy (p.dd name) 2 [p.bh name]) w2:=⟨_,_,af,aG.trans A⟩;clear af A))
  have:=nY (p.dd name) 2 [p.bh name];have aB:=iD (p.dd name) 2 [p.bh name];generalize M:cy (p.dd name) 2 [p.bh name]=q at*;have a2:=aC M;clear M;go_loopw [25] (λC wr=>∃f:Nat,C=ι f/\f<=d.length/\Hid (pk W B wb nb vs vc ((d.take f).foldl (gu c (p.bh name)) q) wr)) (λC _=>d.length-aV C)
  case atStart=>exact⟨0,rfl,by omega,P⟩
  clear P c2;obtain⟨f,rfl,ar,K⟩:=hrel;by_cases hi:f<d.length
  ·have:(f:Int)<d.length:=by omega
   have:(0:Int)<=f:=by omega
   have⟨bg,a',ad,j⟩:=K;obtain⟨rfl,au,aa⟩:=HA (by omega);have cn:=aa.aP ((fM.aP h j aR a6)) au f d[f] (X9 hi);have aZ:=hf.kn h j ap aL;have ai:=aM (d.take f) q;rw[YL,mY ar,aB]at ai;have ac:(d.take (f+1)).foldl (gu c (p.bh name)) q=gu c (p.bh name) ((d.take f).foldl (gu c (p.bh name)) q) d[f]:=by rw[ac1,r',X9 hi];rfl
   have ab:=Ye hB j.tn.size;have aq:=aC ac;clear ac aa;generalize bd:(d.take f).foldl (gu c (p.bh name)) q=q3 at*;generalize Z:d[f]=x at*;have:=F8 x 2147483648 (by decide) c aT;have av:=B4 x c;unfold aK at cn;have aX:=nY q3 4 [bP c x];have aO:=nY (cy q3 4 [bP c x]) 5 [];have t:=iD q3 4 [bP c x];have E:=iD (cy q3 4 [bP c x]) 5 [];have ah:=yX (cy (cy q3 4 [bP c x]) 5 []) x;have J:=oL (cy (cy q3 4 [bP c x]) 5 []) x;have V:=nY ((cy (cy q3 4 [bP c x]) 5 []).dd x) 3 [p.bh name,(cy (cy q3 4 [bP c x]) 5 []).bh x];rw[J]at V;rw[E,t]at ah;have:(cy (cy q3 4 [bP c x]) 5 []).bh x<2147483648:=by omega
   have:p.bh name<2147483648:=by omega
   have aw:q3.bk.length<=1073741824:=by omega
   have aQ:(cy q3 4 [bP c x]).bk.length<=1073741824:=by omega
   have aA:(cy (cy q3 4 [bP c x]) 5 []).a_.length<=1048576:=by rw[E,t];omega
   have aJ:((cy (cy q3 4 [bP c x]) 5 []).dd x).bk.length<=1073741824:=by rw[J];omega
   have an:(cy ((cy (cy q3 4 [bP c x]) 5 []).dd x) 3 [p.bh name,(cy (cy q3 4 [bP c x]) 5 []).bh x]).bk.length<=1073741824:=by omega
   clear aX aO t E J V ah ai;have Q:=vd ad ab aw 4 4 rfl (by decide) [bP c x] (by intro y G;rw[Yc]at G;omega) (by simp) 1 rfl _ rfl #[ι (bP c x)] rfl;go_wp2_with (first|(at_lookup;refine nk _ rfl _ _ 179 rfl 9 3 rV Yj (ι 0) (zi _) i (iH c) rfl aZ x rfl _ av ?_)|(go_at_call 100;refine Q.mono ?_;clear Q;rintro e w4⟨rfl,bn,R,F⟩;have ae:=Ye ab F.tn.size;have X:=Cz R ae aQ 5 5 rfl (by decide);have a1:=j.trans F;clear R F)|(go_at_call 100;refine X.mono ?_;clear X;rintro e w5⟨rfl,ba,Y,v⟩;have S:=Ye ae v.tn.size;have C6:=zY B wb nb _ _ _ x _ Y S aA;have a0:=a1.trans v;clear Y v)|(go_at_call 101;refine C6.mono ?_;clear C6;rintro e w6⟨rfl,a9,N,z⟩;have am:=Ye S z.tn.size;have C7:=vd N am aJ 3 3 rfl (by decide) [p.bh name,(cy (cy q3 4 [bP c x]) 5 []).bh x] (by intro y G;rw[YD,Yc]at G;omega) (by simp) 2 rfl _ rfl #[ι (p.bh name),ι ((cy (cy q3 4 [bP c x]) 5 []).bh x)] rfl;have a3:=a0.trans z;clear N z)|(go_at_call 100;refine C7.mono ?_;clear C7;rintro e w7⟨rfl,bc,T,D⟩;have aS:=Ye am D.tn.size;have C8:=Cz T aS an 5 5 rfl (by decide);have aE:=a3.trans D;clear T D)|(go_at_call 100;refine C8.mono ?_;clear C8;rintro e w8⟨rfl,be,al,U⟩;have a4:pk W B wb nb vs vc (gu c (p.bh name) q3 x) w8:=⟨_,_,al,aE.trans U⟩;clear al U))
   go_roundw
   case rel=>exact⟨f+1,by go_num,by omega,by rw[aq.u];exact a4⟩
   simp only[aV];omega
  have aN:f=d.length:=by omega
  subst aN;have:¬(d.length:Int)<d.length:=by omega
  rw[YR]at K;go_wp2
  go_end0
  exact⟨rfl,by rw[a2.u];exact K⟩
def gQ(q:Wr)(c:aj):Wr:=cy (q.dd c) 7 [q.bh c]
def gy(p:Wr)(a:fv)(b:Nat):Wr:=cy (a.foldl gQ p) 8 [b]
theorem zZ:∀(a:fv) (q:Wr),(a.foldl gQ q).a_.length<=q.a_.length+a.length/\(a.foldl gQ q).bk.length<=q.bk.length+5*a.length
 |[],q=>⟨X0 _,X0 _⟩
 |c::d,q=>by have e:=zZ d (gQ q c);have b:=nY (q.dd c) 7 [q.bh c];have:=yP q c;rw[oL]at b;rw[YP,Ya];unfold gQ at*;rw[iD (q.dd c) 7 [q.bh c]]at e;omega
def FE(p:Wr)(a:fv)(b:Nat):(gy p a b).a_.length<=p.a_.length+a.length/\(gy p a b).bk.length<=p.bk.length+5*a.length+5:=by have:=zZ a p;have:=nY (a.foldl gQ p) 8 [b];unfold gy;rw[iD];omega
variable {e:TypeId}
def aF.DM(h:aF W a e d)(j:ed W B wb nb p vs vc)(i:pk W B wb nb vs vc n c)(f:e≠281)(wr:e≠9)(g:e≠5):aF c a e d:=by have⟨l,k,_,q⟩:=i;exact h.kn j q f wr g
def LX(B L wb nb V s R b:Nat)(p:Wr)(vs vc n1 n2 Y n4 Z:az)(a:fv)(P:fY)(cc w q:Nat)(W:ay)(h:ed W B wb nb p vs vc)(U:B<=W.heap.size)(X:L<=wb)(an:L<=nb)(S:aF W V 206 [n1,n2,Y,n4,Z,.slice P a.length cc])(H:aF W s 207 [.pointer (some ⟨wb,0,none⟩)])(G:aF W R 3 [.int .i64 b])(aA:b<2147483648)(I:0<a.length->P=some ⟨w,q,none⟩/\w<L/\eE W w q a)(hn:a.length<=1000)(av:p.a_.length<=1000000)(aB:p.bk.length<=1000000000):
 Calls prog 99 #[.pointer (some ⟨V,0,none⟩),.pointer (some ⟨s,0,none⟩),.pointer (some ⟨R,0,none⟩)] W λe W'=>e=.returned (.tuple #[])/\pk W B wb nb vs vc (gy p a b) W':=by
 have:=S.cell? (i:=5) rfl;have F:pk W B wb nb vs vc p W:=⟨_,_,h,fM.refl _⟩;go_in;go_wp2
 go_loopw [8] (λt wr=>∃k:Nat,t=.int .i64 k/\k<=a.length/\pk W B wb nb vs vc ((a.take k).foldl gQ p) wr) (λt _=>a.length-aV t)
 case atStart=>exact⟨0,rfl,by omega,F⟩
 obtain⟨k,rfl,ah,l⟩:=hrel;have:=(H.DM h l (by decide) (by decide) (by decide)).cell? (i:=0) rfl;have A:=zZ (a.take k) p;rw[YL,mY ah]at A;by_cases O:k<a.length
 ·have:(k:Int)<a.length:=by omega
  have⟨N,E,i,c⟩:=l;obtain⟨rfl,aa,J⟩:=(aC I).u (by omega);have cn:=J.aP ((fM.aP h c X an)) aa k a[k] (X9 O);have M:(a.take (k+1)).foldl gQ p=gQ ((a.take k).foldl gQ p) a[k]:=by rw[ac1,r',X9 O];rfl
  have o:=Ye U c.tn.size;have ag:=H.kn h c (by decide) (by decide) (by decide);generalize au:(a.take k).foldl gQ p=g at*;generalize ax:a[k]=x at*;have v:=(X5 wr.heap.size wr).drew;have Q:=i.aD v;have C:=c.trans (fM.aD v);have:=yX g x
  have K:g.a_.length<=1048576:=by omega
  have ad:(g.dd x).bk.length<=1073741824:=by rw[oL g x];omega
  unfold aK at cn;go_wp2
  go_region_held3 (λw'=>w'.cell? ⟨s,0,none⟩=some (.pointer (some ⟨wb,0,none⟩))) (go_keep) (first|(go_at_call 101;refine κ (zY B wb nb g N E x wr.drew Q o K) λw6⟨ap,D,m⟩=>?_;have j:=vd D (Ye o m.tn.size) ad 7 7 rfl (by decide) [g.bh x] (by intro y z;rw[Yc]at z;omega) (by simp) 1 rfl _ rfl #[.int .i64 (g.bh x)] rfl;have:=(ag.drew.kn Q m (by decide) (by decide) (by decide)).cell? (i:=0) rfl)|(go_at_call 100;refine κ j λr⟨ae,d,f⟩=>?_;have n:pk W B wb nb vs vc (gQ g x) r:=⟨_,_,d,(C.trans m).trans f⟩;have:=(H.DM h n (by decide) (by decide) (by decide)).cell? (i:=0) rfl))
  all_goals go_wp2
  all_goals go_roundw
  case rel=>exact⟨k+1,by go_num,by omega,by rw[(aC M).u];exact n⟩
  simp only[aV];omega
 have T:k=a.length:=by omega
 subst T;have:¬(a.length:Int)<a.length:=by omega
 rw[YR]at l A;have:=(G.DM h l (by decide) (by decide) (by decide)).cell? (i:=0) rfl;have⟨N,E,i,c⟩:=l;have o:=Ye U c.tn.size;have j:=vd i o (by omega) 8 8 rfl (by decide) [b] (by intro y z;rw[Yc]at z;omega) (by simp) 1 rfl _ rfl #[.int .i64 b] rfl;have C:=c;go_wp2_with (go_at_call 100;refine κ j λr⟨ae,d,f⟩=>?_;have n:pk W B wb nb vs vc (gy p a b) r:=⟨_,_,d,C.trans f⟩)
 go_end0
 exact⟨rfl,n⟩
def Ry{e:hZ}(h:B<=a)(k:c.heap[a]?=some (.cells e wb (0,0)))(i:nb<=m)(j:m<=maxLen)(g:e.size=m*1)(f:e.toList.take (nb*1)=b)(o:q+d.length<=nb):
 (c.setRow a (e.toList.take q++(d++e.toList.drop (q+d.length))).toArray).ownsRow B wb 1 (ξ a nb m) nb (b.take q++(d++b.drop (q+d.length))):=by
 rw[afJ]at g f;have:e.toList.length=m:=by rw[afV];exact g
 have:b.length=nb:=by rw[<-f,YL];omega
 refine⟨by simp;omega,.inr ⟨a,m,_,rfl,h,setRow_heap c a _ _ wb _ k,i,j,by simp;omega,?_⟩⟩;subst f;rw[afJ,aeY,aeY,acX,acX,YL,mY (by omega:q<=e.toList.length),Nat.min_comm nb q,mY (by omega:q<=nb)];rw[ac2,YF (l:=d) (by omega)];rw[show nb-q-d.length=nb-(q+d.length) by omega]
def L9{f:Program}{r:kt}{w:Oper}{a:Act}{K:Act->ay->Prop}{Q:Exit->Act->ay->Prop}{E:Prop}(C:w.guard=none)(d s:Operand)(l u:TypeId)(J:w.op=.call {callee:=.builtin .copy,args:= #[d,s],argTypes:= #[l,u]})(p:TypeId)(L:f.underlying l=some (.slice p))(G:(f.info? p).map (·.size)=some 1)(B e cap n:Nat)(q:f')(N:c.ownsRow B p 1 (ξ e n cap) n q)(W j A:Nat)(M:a.eval d=.slice (some (η e W)) j A)(i:Addr)(g z:Nat)(T:a.eval s=.slice (some i) g z)(b:f')(V:b.length=g)(U:g<=j)(Y:W+g<=n)(Z:∀t v,b[t]?=some v->c.cell? (i.add t)=some v)(P:∀v∈b,v.oneCell' =true)(h:∀m,m.ownsRow B p 1 (ξ e n cap) n (q.take W++(b++q.drop (W+b.length)))->Tn (λk=>k=e) c m ->K (a.put w.dst (goInt b.length)) m):
 if Region.wanted w (yielded r a.tmps)=true then Oper.wp f w a c K Q else E:=by
 have H:Region.wanted w (yielded r a.tmps)=true:=by simp[Region.wanted,C]
 rw[Yd H];obtain⟨o,_⟩|⟨g',aa,I,o,D,y,F,R,X,S⟩:=N.2
 ·cases o
 cases o;subst V;have x:=run_copy_row (P:=f) c l u w.type p e W j A i b.length z I p b L G y (mY U).symm Z (by omega) P;rw[YB]at x;unfold Oper.wp;simp[execOp,J,resolve,invoke,builtin,M,T,x,Result.andThen];refine h _ (Ry D y F R X S Y) ⟨rfl,rfl,rfl,by simp[World.setRow],λk _ O=>setRow_other c e k _ O⟩
theorem Iw(p:Wr)(c:Nat)(b:gb):∀a,p.bk.length<=(nF p c b a).bk.length
 |0=>by show _<=(p.bk++_).length;simp
 |a+1=>by have:=Iw p c b a;show _<=((nF p c b a).bk++du _ _).length;rw[X4];omega
def Jz(p:Wr)(b:Nat)(a:gb):p.bk.length<=(cy p b a).bk.length:=Iw p b a 2
theorem EN:∀(d:fv) (q:Wr),q.bk.length<=(d.foldl gQ q).bk.length
 |[],_=>X0 _
 |c::e,q=>by have a:=Jz (q.dd c) 7 [q.bh c];rw[oL]at a;rw[YP];exact Ye a (EN e (gQ q c))
def AK(p:Wr)(a:fv)(b:Nat):p.bk.length<=(gy p a b).bk.length:=Ye (EN a p) (Jz _ 8 [b])
def Bz(p:Wr):(cy p 6 []).bk.length=p.bk.length+1+2:=by show(((p.bk++[UInt8.ofNat 6])++du 0 2)++du 0 0).length=_;simp only[X4,jA _ _ (X0 2),jA _ _ (Yh 2),Yx]
def vE(q:Wr)(d m:Nat):Wr:=⟨q.a_,q.bk.take d++(du m 2++q.bk.drop (d+2)),q.lK||Cp.iC m 2⟩
def nD(p:Wr)(a:fv)(b:Nat):Wr:=vE (gy (cy p 6 []) a b) (p.bk.length+1) ((gy (cy p 6 []) a b).bk.length-(p.bk.length+1+2))
def Ps(c:j.length=2):(Lib.byteCells h).take a++(Lib.byteCells j++(Lib.byteCells h).drop (a+(Lib.byteCells j).length))=Lib.byteCells (h.take a++(j++h.drop (a+2))):=by rw[ZJ,c];unfold Lib.byteCells;simp only[Yy,List.map_take,List.map_drop]
def BV(a b:aj)(d:Nat)(e:b.length=2)(c:d+2<=a.length):(a.take d++(b++a.drop (d+2))).length=a.length:=by simp only[X4,YL,Zu];omega
def Qz(p:Wr)(a:fv)(b:Nat):(nD p a b).a_.length<=p.a_.length+a.length/\(nD p a b).bk.length<=p.bk.length+5*a.length+8:=by have c:=FE (cy p 6 []) a b;have:=Bz p;have:=AK (cy p 6 []) a b;rw[iD]at c;refine⟨c.1,?_⟩;show((gy (cy p 6 []) a b).bk.take (p.bk.length+1)++(du _ 2++(gy (cy p 6 []) a b).bk.drop (p.bk.length+1+2))).length<=_;rw[BV _ _ _ (jA _ _ (X0 2)) (by omega)];omega
def ed.cL(h:ed W B wb nb p vs (ξ a m q))(t:p.bk.length=m)(l:w+2<=m)(s:Tn (λk=>k=wb) W f)(r:aF f wb 281 [.map (some nb),vs,ξ a m q,.bool (p.lK||Cp.iC x 2)])(b:c.ownsRow B 5 1 (ξ a m q) m ((Lib.byteCells p.bk).take w++(Lib.byteCells (du x 2)++(Lib.byteCells p.bk).drop (w+(Lib.byteCells (du x 2)).length))))(g:Tn (λk=>k=a) f c):
 aF c wb 281 [.map (some nb),vs,ξ a m q,.bool (p.lK||Cp.iC x 2)]/\ed c B wb nb (vE p w x) vs (ξ a m q)/\fM wb nb vs (ξ a m q) vs (ξ a m q) W c:=by have j:=jA x 2 (X0 2);have v:=(h.bk.lt a rfl).1;have u:=h.wB;have i:=r.tn g (by omega);rw[Ps j]at b;subst t;have o:=BV p.bk (du x 2) w j l;refine⟨i,h.Ks i ?_ ((s.mono (λk e=> .inl e)).trans (g.mono (λk e=> .inr (by subst e;rfl)))) (λ_ e=> .inl e)⟩;rw[o];exact b
def Cu(a b c:Nat):az:=.func (.func 99) #[] #[π a,π b,π c]
def N4(B L wb nb C s z a:Nat)(p:Wr)(vs vc n1 n2 E S O:az)(b:fv)(y:fY)(P l co:Nat)(W:ay)(h:ed W B wb nb p vs vc)(hB:B<=W.heap.size)(V:L<=wb)(aa:L<=nb)(hs:aF W C 206 [n1,n2,E,S,O,.slice y b.length P])(J:aF W s 207 [π wb])(I:aF W z 3 [ι a])(ap:a<2147483648)(j:0<b.length->y=some ⟨l,co,none⟩/\l<L/\eE W l co b)(hn:b.length<=1000)(ak:p.a_.length<=1000000)(aJ:p.bk.length<=900000000):
 Calls prog 98 #[π wb,Cu C s z] W λe W'=>e=.returned (.tuple #[])/\pk W B wb nb vs vc (nD p b a) W':=by
 have af:(Tryz.prog.info? 5).map (·.size)=some 1:=by kernel_rfl
 have Z:=Cz h hB (by omega) 6 6 rfl (by decide);have x:=Bz p;have ah:=FE (cy p 6 []) b a;have ad:=AK (cy p 6 []) b a;have ai:=iD p 6 [];have F:=λ(k:ay) (o:az) (g:ed k B wb nb (cy p 6 []) vs o) (c:fM wb nb vs vc vs o W k)=>LX B L wb nb C s z a (cy p 6 []) vs o n1 n2 E S O b y P l co k g (Ye hB c.tn.size) V aa (hs.kn h c (by decide) (by decide) (by decide)) (J.kn h c (by decide) (by decide) (by decide)) (I.kn h c (by decide) (by decide) (by decide)) ap (λe=>⟨(j e).1,(j e).2.1,(j e).2.2.aP (fM.aP h c V aa) (j e).2.1⟩) hn (by rw[ai];exact ak) (by omega);have aG:=h.wB;clear h hs J I j;obtain⟨d,w⟩:∃d,d=p.bk.length+1:=⟨_,rfl⟩;have R:nD p b a=vE (gy (cy p 6 []) b a) d ((gy (cy p 6 []) b a).bk.length-(d+2)):=by rw[w];rfl
 rw[R];rw[<-w]at x;have ax:(gy (cy p 6 []) b a).bk.length<=1000000000:=by omega
 have aw:d+2<=(gy (cy p 6 []) b a).bk.length:=by omega
 have aA:d<=900000001:=by omega
 clear R ah ad w;generalize gy (cy p 6 []) b a=q at*;generalize hm:q.bk.length-(d+2)=m at*;unfold Cu;go_in;go_wp2_with (first|(go_at_call 100;refine κ Z λk⟨o,g,c⟩=>?_;obtain⟨g1,k1,rfl,-⟩:=dv g.bk (by omega);have r:=g.row.cell? (i:=2) rfl;rw[x]at r;have Q:=F _ _ g c)|(go_at_call 99;refine Q.mono ?_;clear Q r;rintro e D⟨rfl,aE,aB,X,H⟩;have f:=aC X;have ag:=c.trans H;clear X H))
 obtain⟨U,i,rfl,aK,-⟩:=dv f.bk (by omega);have av:=B_ f.bk;have r:=f.row.cell? (i:=2) rfl;have al:=(X5 D.heap.size D).drew;have M:=aC (yi wb m 2 (X0 2) _ _ _ _ D.drew f.row (by omega));generalize N:q.bk.length=n at*;have aq:=jA m 2 (X0 2)
 have i2:(d:Int)<=n:=by omega
 have i0:(0:Int)<=d:=by omega
 have e1:IntKind.wrap .i64 ((d:Int)+2-2)=(d:Int):=by rw[Int.add_sub_cancel];exact wrap_small (by omega) (by omega)
 have aL:IntKind.wrap .i64 (d:Int)=d:=wrap_small (by omega) (by omega);have e2:IntKind.wrap .i64 ((n:Int)-((d:Int)+2))=(m:Int):=by rw[show (n:Int)-((d:Int)+2)=(m:Int) by omega];exact wrap_small (by omega) (by omega)
 go_region_held3 (λw'=>w'.χ wb 2=some (ξ U n i)) (go_keep) (first|(go_at_call 148;refine M.mono ?_;rintro e w3⟨N3,rfl,G,A,an,v⟩;have d2:=A.cell? (i:=2) rfl;have am:=aC (bI f.bk (λq T=>v.block q (f.bk.lt q T).2 (by have:=(f.bk.lt q T).1;omega)));have ar:=(Tn.aD (p:=λq=>q=wb) al).trans v;clear v an)|(refine L9 rfl (.tmp 20) (.tmp 29) 126 126 rfl 5 YI af B U i n _ (by have:=am;rw[N]at this;exact this) d _ _ (by rfl) (η N3 0) 2 2 (by rfl) (Lib.byteCells (du m 2)) (by rw[ZJ,aq]) (by omega) (by omega) (λau u hj=>by rw[jx];exact G.cell? hj) (uC) ?_;intro w4 K Y;have t:=f.cL N (by omega) ar A K Y;have d4:=t.1.cell? (i:=2) rfl;clear K Y))
 all_goals go_wp2
 all_goals go_end0
 all_goals exact⟨rfl,_,_,t.2.1,ag.trans t.2.2⟩
def dk(a:fv):aj:=a.flatMap λs=>du s.length 2++s
def mn(a:fv)(b:Nat):aj:=([80,49]++du a.length 2)++dk (a.take b)
def nG(p:Wr)(a:Nat):Bool:=(p.lK||Cp.iC p.a_.length 2)||(p.a_.take a).any λs=>Cp.iC s.length 2
def oW(p:Wr):jj:=if nG p p.a_.length||decide (1000<p.a_.length) then none else some (mn p.a_ p.a_.length++p.bk)
def qy:jj->az
 |some a=> .tuple #[.string ⟨a.toArray⟩,.bool true]
 |none=> .tuple #[.string ⟨#[]⟩,.bool false]
theorem FR:∀(c:fv) (a:Nat),(dk (c.take a)).length<=(dk c).length
 |[],a=>by simp
 |s::b,0=>by simp[dk]
 |s::b,a+1=>by have:=FR b a;unfold dk at*;simp only[ZY,YA,X4];omega
theorem Hi:∀(a:fv) (s:aj),s∈a->s.length<=(dk a).length
 |[],s,h=>by cases h
 |x::c,s,h=>by
  unfold dk;simp only[YA,X4];obtain e|e:=YD.1 h
  ·subst e;omega
  have b:=Hi c s e;unfold dk at b;omega
theorem E6:∀(a:fv),a.length<=(dk a).length
 |[]=>X0 _
 |x::b=>by have:=E6 b;have:=jA x.length 2 (X0 2);unfold dk at*;simp only[YA,X4,Ya];omega
def Ik(a:fv)(b:Nat):(mn a b).length<=4+(dk a).length:=by have:=FR a b;have:=jA a.length 2 (X0 2);unfold mn;simp only[X4,Ya,Yr];omega
def Qw(a:fv)(b:Nat)(h:b<a.length):mn a (b+1)=mn a b++du a[b].length 2++a[b]:=by unfold mn dk;rw[ac1,X9 h,Zq];simp
def Px(p:Wr)(a:Nat)(h:a<p.a_.length):nG p (a+1)=(nG p a||Cp.iC p.a_[a].length 2):=by unfold nG;rw[ac1,X9 h,List.any_append];simp[Bool.or_assoc]
def Tn.tail{p q:Nat->Prop}(h:Tn p c f)(d:Tn q f W)(i:∀k,q k->c.heap.size<=k):Tn p c W:=⟨d.os.trans h.os,d.tape.trans h.tape,d.output.trans h.output,Ye h.size d.size,λk a g=>(d.block k (Yo a h.size) (λe=>by have:=i k e;omega)).trans (h.block k a g)⟩
def L8:Lib.strCells ⟨h.toArray⟩=Lib.byteCells h:=by unfold Lib.strCells Lib.byteCells;rfl
def OT:nG p 0=(p.lK||Cp.iC p.a_.length 2):=by unfold nG;simp
def Q':mn k 0=[80,49]++du k.length 2:=by unfold mn dk;simp
def OD{w:Nat×Nat}(h:c.heap[B]?=some (.cells d.toArray e w))(b:d[a]?=some g):c.cell? ⟨B,a,none⟩=some g:=by unfold World.cell?;simp[h,b]
structure DR(W:ay)(H wb nb:Nat)(p:Wr)(vs vc:az)(i:Nat)(ov:az)(wr:ay):Prop where
 tn:Tn (λk=>k=wb) W wr
 hH:W.heap.size<=H/\H<=wr.heap.size
 row:aF wr wb 281 [.map (some nb),vs,vc,.bool (nG p i)]
 bG:wr.ownsRow H 5 1 ov (mn p.a_ i).length (Lib.byteCells (mn p.a_ i))
def Q1(w:c.ownsRow B 5 1 g h.length (Lib.byteCells h))(b:0<h.length):(convert 126 9 g).run prog c=.ok (σ h) c:=by obtain⟨e,f,rfl,-⟩:=dv w b;refine acW c _ _ 5 _ f h YI Zv Yj ?_;intro a d;have:=lI w a (by rw[ZJ];exact d);rw[jx,this];unfold Lib.byteCells;simp


