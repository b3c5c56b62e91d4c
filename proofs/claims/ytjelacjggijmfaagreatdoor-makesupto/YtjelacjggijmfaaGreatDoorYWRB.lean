/- . -/
import Derived.Test.YtjelacjggijmfaaGreatDoorYWR5
import Derived.Test.YtjelacjggijmfaaGreatDoorYMD
set_option linter.all false
set_option maxHeartbeats 4000000
set_option maxRecDepth 100000
namespace Go.Proofs.YtjelacjggijmfaaGreatDoor
open Pl Mk Cp Proofs.Tryz
open RowKit MapKept ChangeMaps Maps
variable {a c j:Nat}{b e:az}{d n:ay}{f i k l:aj}{g:fv}{C:f'}
def OK(B f y:Nat)(a:Wr)(vs vc:az)(W:ay)(h:ed W B f y a vs vc)(aW:(dk a.a_).length<=1000000000)(au:0<a.bk.length)(a6:a.bk.length<=1073741824):
 Calls prog 102 #[π f] W λe W'=>e=.returned (qy (oW a))/\Tn (λk=>k=f) W W':=by
 have⟨L,F,G,J,A⟩:=Y1 Tryz.xm;have:=E6 a.a_;have aq:=Lib.run_convert_bytes_const (P:=prog) W 126 5 #[.int .u8 80,.int .u8 49] 2 2 YI Zv;have⟨sa,X,aG⟩:=fp h.a_;obtain⟨K,I,av,-⟩:=dv h.bk au;subst aG av;have:=h.row.lt;have:=h.wB;obtain⟨j,q⟩:∃j,j=W.alloc (.cells #[.int .u8 80,.int .u8 49] 5 (2,3)):=⟨_,rfl⟩;have aN:(convert 126 126 (ξ W.heap.size 2 2)).run prog (W.alloc (.cells #[.int .u8 80,.int .u8 49] 5))=.ok (ξ W.heap.size 2 2) j:=by rw[q];exact aq
 have Y:μ W j:=by rw[q];exact ak W _
 have O:aF j f 281 _:=h.row.aD Y;have c1:=O.cell? (i:=1) rfl;have an:j.heap[W.heap.size]?=some (.cells #[.int .u8 80,.int .u8 49] 5 (2,3)):=by rw[q];show(W.heap.push _)[W.heap.size]?=_;simp
 have a0:j.heap.size=W.heap.size+1:=by rw[q];exact X_ _ _
 have r:=aC (yi f a.a_.length 2 (X0 2) _ _ _ _ j O (by omega));have al:=aC an;clear aq q O an;go_in;go_wp2_with (first|(go_at_call 148;refine r.mono ?_;clear r;rintro e w2⟨N2,rfl,ae,aa,aQ,D⟩;have ag:=aC ae;have aj:=aC aa;have ai:=aC ((D.block W.heap.size (by omega) (by omega)).trans al);have af:=aC ((Tn.aD (p:=λk=>k=f) Y).trans D);have:=D.size;clear ae aa aQ D)|(at_builtin;refine wpList_append_grows _ rfl (.tmp 8) (.tmp 15) 126 rfl 5 L (.int .u8 0) 1 1 YI F G J A rfl (by decide) (some (η W.heap.size 0)) 2 2 (Lib.byteCells [80,49]) rfl (λe=>by cases e) rfl (λb e w u m=>by cases e;rw[jx];exact OD ai m) (η N2 0) 2 2 (Lib.byteCells (du a.a_.length 2)) rfl (by rw[ZJ,jA _ _ (X0 2)]) (λw u m=>by rw[jx];exact ag.cell? m) (uC) (by omega) (by decide) (by decide) ?_;intro v3 w3 ah v;have T:=aj.grown v (by simp);have M:=T.cell? (i:=1) rfl;have ab:DR W w2.heap.size f y a (.slice sa a.a_.length X) (ξ K a.bk.length I) 0 v3 w3:=⟨af.tail (Tn.grown (p:=λ_=>False) v (λk e=>by cases e)) (λ_ e=>e.elim),⟨by omega,v.size⟩,by rw[OT];exact T,by rw[Q',X4,jA _ _ (X0 2),C'];exact ah⟩;clear ah v T))
 generalize w2.heap.size=H at*;clear al ag aj ai af aN c1;go_loopw [4,22] (λov Q wr=>∃c:Nat,Q=ι c/\c<=a.a_.length/\DR W H f y a (.slice sa a.a_.length X) (ξ K a.bk.length I) c ov wr) (λ_ Q _=>a.a_.length-aV Q)
 case atStart=>exact⟨0,rfl,by omega,ab⟩
 clear ab M;obtain⟨c,rfl,aU,d⟩:=hrel;have:=d.hH;by_cases E:c<a.a_.length
 ·have:(c:Int)<a.a_.length:=by omega
  obtain⟨aO,k0,ax,-⟩:=dv h.a_ (by omega);cases ax;have HS:=bI h.a_ (λk i=>d.tn.block k (h.a_.lt k i).2 (by have:=(h.a_.lt k i).1;omega));have cs:=lI HS c (by simpa using E);rw[YT]at cs;have:=Hi a.a_ a.a_[c] (Ym E);have n:=Qw a.a_ c E;have ao:=Px a c E;have:=Ik a.a_ c;generalize hx:a.a_[c]=x at*;unfold aK at cs;have ap:=jA x.length 2 (X0 2);have r:=aC (yi f x.length 2 (X0 2) _ _ _ _ wr d.row (by omega));have aw:=aC n;have aL:=aC ao;have S:(ByteArray.mk x.toArray).size=x.length:=rfl;clear n ao;go_wp2_with (first|(go_at_call 148;refine r.mono ?_;clear r;rintro e w5⟨N5,rfl,ac,Z,ar,z⟩;have aI:=aC ac;have aP:=aC Z;have R:=aC (bI d.bG (λk i=>z.block k (d.bG.lt k i).2 (by have:=(d.bG.lt k i).1;omega)));have aR:=d.tn.trans z;have:=z.size;clear ac Z ar z)|(at_builtin;refine YS _ rfl (.tmp 26) (.tmp 30) 126 rfl H 5 L (.int .u8 0) 1 1 YI F G J A rfl (by decide) _ _ _ rfl R (η N5 0) 2 2 (Lib.byteCells (du x.length 2)) rfl (by rw[ZJ,ap]) (λw u m=>by rw[jx];exact aI.cell? m) (uC) (by unfold maxLen;omega) (by omega) (by omega) ?_;intro v6 w6 p l _ _;have N:=aC p;have aA:=aP.grown l (cQ R (by omega));have V:=aC (aR.tail (Tn.grown (p:=λk=>H<=k) l (λk e=>(R.lt k e).1)) (λk e=>by omega));have:=l.size;clear p l)|(at_builtin;refine L3 _ rfl (.tmp 32) (.tmp 33) 126 9 rfl H 5 L YI Yj F G J A _ _ _ rfl N ⟨x.toArray⟩ rfl (by rw[S];unfold maxLen;omega) (by rw[S];omega) (by omega) ?_;intro v7 w7 U C _;rw[L8,S]at U;have aB:Hid (DR W H f y a (ξ aO a.a_.length X) (ξ K a.bk.length I) (c+1) v7 w7):=⟨V.tail (Tn.grown (p:=λk=>H<=k) C (λk e=>(N.lt k e).1)) (λk e=>by omega),⟨by omega,Ye (by omega) C.size⟩,by rw[aL.u];exact aA.grown C (cQ N (by omega)),by rw[aw.u,X4,X4,ap,C',C'];exact U⟩;clear U C))
  go_roundw
  case rel=>exact⟨c+1,by go_num,by omega,aB⟩
  simp only[aV];omega
 have aH:c=a.a_.length:=by omega
 subst aH;have:¬(a.a_.length:Int)<a.a_.length:=by omega
 have c1:=d.row.cell? (i:=1) rfl;have:=d.row.cell? (i:=2) rfl;have M:=d.row.cell? (i:=3) rfl;have o:Hid (oW a=if nG a a.a_.length||decide (1000<a.a_.length) then none else some (mn a.a_ a.a_.length++a.bk)):=rfl;cases t:nG a a.a_.length with
 |true=>
  rw[t]at M;have g:oW a=none:=by rw[o.u,t];rfl
  have s:=aC g;clear o g;go_wp2
  go_ret2
  exact⟨by rw[s.u];rfl,d.tn⟩
 |false=>
  rw[t]at M;by_cases hb:1000<a.a_.length
  ·have:(1000:Int)<a.a_.length:=by omega
   have g:oW a=none:=by rw[o.u,t];simp[hb]
   have s:=aC g;clear o g;go_wp2
   go_ret2
   exact⟨by rw[s.u];rfl,d.tn⟩
  have:¬(1000:Int)<a.a_.length:=by omega
  have g:oW a=some (mn a.a_ a.a_.length++a.bk):=by rw[o.u,t];simp[hb]
  have s:=aC g;clear o g;have:=Ik a.a_ a.a_.length;have aE:=bI h.bk (λk i=>d.tn.block k (h.bk.lt k i).2 (by have:=(h.bk.lt k i).1;omega));go_wp2_with (at_builtin;refine YS _ rfl (.tmp 48) (.tmp 52) 126 rfl H 5 L (.int .u8 0) 1 1 YI F G J A rfl (by decide) _ _ _ rfl d.bG (η K 0) a.bk.length I (Lib.byteCells a.bk) rfl (by rw[ZJ];omega) (λw u m=>by rw[jx];have⟨aJ,aS⟩:=Yl.1 m;rw[<-aS];exact lI aE w aJ) (uC) (by unfold maxLen;omega) (by omega) (by omega) ?_;intro v6 w6 p l _ _;rw[<-C',<-X4]at p;have:=Q1 p (by rw[X4];omega);have V:=aC (d.tn.tail (Tn.grown (p:=λk=>H<=k) l (λk e=>(d.bG.lt k e).1)) (λk e=>by omega));clear p l)
  go_ret2
  exact⟨by rw[s.u];rfl,V⟩
structure cj where
 name:aj
 ph:Bool
 aH:fv
 stem:aj
 aI:fv
def da:eh->aj->Nat->eh
 |[],k,v=>[(k,v)]
 |x::a,k,v=>if x.1==k then(k,v)::a else x::da a k v
theorem xZ(k:aj)(v:Nat):∀a:eh,fh (iH a) k (ι v)=iH (da a k v)
 |[]=>rfl
 |x::b=>by
  have c:=xZ k v b;unfold iH at*;rw[YE,fh,da];cases d:(x.1==k) with
  |true=>simp|false=>simp[c]
theorem Gw(k:aj)(v:Nat):∀a:eh,(da a k v).length<=a.length+1
 |[]=>X0 _
 |x::b=>by
  have:=Gw k v b;rw[da];split
  ·simp
  simp only[Ya];omega
theorem yx(k:aj)(v n:Nat)(b:v<n):∀c:eh,(∀x∈c,x.2<n)->∀x∈da c k v,x.2<n
 |[],_,x,a=>by rw[da,Yc]at a;subst a;exact b
 |y::d,h,x,a=>by
  rw[da]at a;split at a
  ·obtain e|e:=YD.1 a
   ·subst e;exact b
   exact h x (Yp _ e)
  obtain e|e:=YD.1 a
  ·subst e;exact h _ (Yq ..)
  exact yx k v n b d (λz f=>h z (Yp _ f)) x e
def dm(b:List cj):Nat->Wr×eh
 |0=>(⟨[],[],false⟩,[])
 |a+1=>match b[a]? with|some x=>(nD (iR (da (dm b a).2 x.name a) (dm b a).1 x.ph x.name x.aH) x.aI a,da (dm b a).2 x.name a)|none=>dm b a
def ie(a:List cj):jj:=oW (dm a a.length).1
def ud(b:List cj)(a:Nat)(h:a<b.length):dm b (a+1)=(nD (iR (da (dm b a).2 b[a].name a) (dm b a).1 b[a].ph b[a].name b[a].aH) b[a].aI a,da (dm b a).2 b[a].name a):=by rw[dm,X9 h]
def cj.sz(x:cj):Nat:=2+x.name.length+(dk x.aH).length+(dk x.aI).length
def nO(a:List cj):Nat:=(a.map cj.sz).sum
def Ph:(dk (g++[f])).length=(dk g).length+2+f.length:=by unfold dk;rw[Zq,X4];simp[jA f.length 2 (Nat.le_refl 2)];omega
def Cq(a:Wr)(s:aj):(dk (a.dd s).a_).length<=(dk a.a_).length+2+s.length:=by
 unfold Wr.dd;cases b:a.a_.findIdx? (λx=>x==s) with
 |none=>rw[Ph];exact X0 _
 |some c=>simp only;omega
def MD(a:eh)(b:Nat)(q:Wr)(x:aj):(dk (gu a b q x).a_).length<=(dk q.a_).length+2+x.length:=by unfold gu;rw[iD,iD];refine Ye (Cq _ _) ?_;rw[iD,iD];exact X0 _
def AI:(dk (f::g)).length=2+f.length+(dk g).length:=by unfold dk;rw[YA,X4,X4,jA f.length 2 (X0 2)]
theorem Ey(a:eh)(b:Nat):∀(c:fv) (q:Wr),(dk (c.foldl (gu a b) q).a_).length<=(dk q.a_).length+(dk c).length
 |[],q=>IH _ _
 |n::d,q=>by have:=Ey a b d (gu a b q n);have:=MD a b q n;rw[YP,AI];omega
def PZ(c:eh)(a:Wr)(d:Bool)(f:aj)(b:fv):(dk (iR c a d f b).a_).length<=(dk a.a_).length+2+f.length+(dk b).length:=by
 unfold iR;cases d with
 |true=>rw[Yd rfl,iD];omega
 |false=>simp only[YN,Z4];have e:=Ey c (a.bh f) b (cy (a.dd f) 2 [a.bh f]);have:=Cq a f;rw[iD]at e;omega
theorem EU:∀(a:fv) (q:Wr),(dk (a.foldl gQ q).a_).length<=(dk q.a_).length+(dk a).length
 |[],q=>IH _ _
 |c::b,q=>by
  have:=EU b (gQ q c);have:(dk (gQ q c).a_).length<=(dk q.a_).length+2+c.length:=by unfold gQ;rw[iD];exact Cq q c
  rw[YP,AI];omega
def SG(a:Wr)(b:fv)(c:Nat):(dk (nD a b c).a_).length<=(dk a.a_).length+(dk b).length:=by show(dk (gy (cy a 6 []) b c).a_).length<=_;unfold gy;rw[iD];have:=EU b (cy a 6 []);rw[iD]at this;exact this
def SJ(a:Wr)(c:fv)(b:Nat):a.bk.length+3<=(nD a c b).bk.length:=by have:=Bz a;have:=AK (cy a 6 []) c b;show _<=((gy (cy a 6 []) c b).bk.take (a.bk.length+1)++(du _ 2++(gy (cy a 6 []) c b).bk.drop (a.bk.length+1+2))).length;rw[BV _ _ _ (jA _ _ (X0 2)) (by omega)];omega
structure Xw(ss:List cj)(i:Nat):Prop where
 a_:(dm ss i).1.a_.length<=2001*i
 bk:(dm ss i).1.bk.length<=30000*i
 sz:(dk (dm ss i).1.a_).length<=nO (ss.take i)
 bj:0<i->0<(dm ss i).1.bk.length
 Dr:(dm ss i).2.length<=i
 lt:∀x∈(dm ss i).2,x.2<i
theorem Lw(b:List cj)(g:∀x∈b,x.aH.length<=1000/\x.aI.length<=1000):∀a,a<=b.length->Xw b a
 |0,_=>⟨X0 _,X0 _,X0 _,λe=>by omega,X0 _,λx f=>by cases f⟩
 |a+1,p=>by
  have c:=Lw b g a (by omega);have d:a<b.length:=by omega
  have⟨t,u⟩:=g b[a] (Ym d);have e:=ud b a d;have:=FK (da (dm b a).2 b[a].name a) (dm b a).1 b[a].ph b[a].name b[a].aH;have:=Qz (iR (da (dm b a).2 b[a].name a) (dm b a).1 b[a].ph b[a].name b[a].aH) b[a].aI a;have:=PZ (da (dm b a).2 b[a].name a) (dm b a).1 b[a].ph b[a].name b[a].aH;have:=SG (iR (da (dm b a).2 b[a].name a) (dm b a).1 b[a].ph b[a].name b[a].aH) b[a].aI a;have:=SJ (iR (da (dm b a).2 b[a].name a) (dm b a).1 b[a].ph b[a].name b[a].aH) b[a].aI a;have:=Gw b[a].name a (dm b a).2;have:=c.a_;have:=c.bk;have:=c.sz;have:=c.Dr;have h:nO (b.take (a+1))=nO (b.take a)+b[a].sz:=by unfold nO;rw[Yn d,Yy,acB];simp
  refine⟨?_,?_,?_,?_,?_,?_⟩
  ·rw[e];dsimp only;omega
  ·rw[e];dsimp only;omega
  ·rw[e,h];unfold cj.sz;dsimp only;omega
  ·rw[e];dsimp only;omega
  ·rw[e];dsimp only;omega
  rw[e];exact yx _ a (a+1) (by omega) _ (λx f=>by have:=c.lt x f;omega)
def TN(a:List cj)(b:Nat):nO (a.take b)<=nO a:=by
 unfold nO;rw[List.map_take]
 conv=>rhs;rw[<-C0 b (a.map cj.sz)]
 rw[acB];omega
def Dy(W:ay)(b c:Nat)(d:f'):Prop:=∀(a:Nat) (u:az),d[a]?=some u->W.cell? ⟨b,c+a,none⟩=some u
def XA(W:ay)(L b i:Nat)(x:cj):Prop:=∃(d e m:fY) (f h c k a l g j:Nat),
 Dy W b i [aK x.name,.bool x.ph,.slice d x.aH.length f,.slice m g j,aK x.stem,.slice e x.aI.length h]/\(0<x.aH.length->d=some ⟨c,k,none⟩/\c<L/\eE W c k x.aH)/\(0<x.aI.length->e=some ⟨a,l,none⟩/\a<L/\eE W a l x.aI)
def Mr(W:ay):Calls prog 96 #[] W λe c=>∃a h,e=.returned (π a)/\(∀B,c.heap.size<=B->ed c B a h ⟨[],[],false⟩ (ς) (ς))/\μ W c/\W.heap.size<=a/\W.heap.size<=h:=by
 have:= @B' prog;have b:(W.alloc (.map #[] 0)).heap.size=W.heap.size+1:=X_ _ _;have d:=(X5 (W.alloc (.map #[] 0)).heap.size (W.alloc (.map #[] 0))).alloc ax (.cells #[.map (some W.heap.size),ς,ς,.bool false] 281);have k:μ W ((W.alloc (.map #[] 0)).alloc (.cells #[.map (some W.heap.size),ς,ς,.bool false] 281)):=((X5 W.heap.size W).alloc ax (.map #[] 0)).alloc (by omega) _;have i:∀B,((W.alloc (.map #[] 0)).alloc (.cells #[.map (some W.heap.size),ς,ς,.bool false] 281)).heap.size<=B->ed ((W.alloc (.map #[] 0)).alloc (.cells #[.map (some W.heap.size),ς,ς,.bool false] 281)) B (W.heap.size+1) W.heap.size ⟨[],[],false⟩ (ς) (ς):=λB j=>by rw[X_,b]at j;have g:=aF.bq (W.alloc (.map #[] 0)) 281 [.map (some W.heap.size),ς,ς,.bool false];rw[b]at g;exact⟨g,(bF.oj W).aD d,YG _ _ _ _,YG _ _ _ _,by omega,by omega⟩
 go_in;go_wp2
 go_ret;exact⟨_,_,rfl,i,k,by omega,by omega⟩
structure DH(W:ay)(B wb nb xb fb:Nat)(ss:List cj)(i:Nat)(wr:ay):Prop where
 wm:∃vs vc,ed wr B wb nb (dm ss i).1 vs vc
 aP:μ W wr
 size:B<=wr.heap.size
 Dr:bF wr fb (iH (dm ss i).2)
 df:aF wr xb 207 [π wb]
def ed.tn{B:Nat}{i:Wr}{f:Nat->Prop}(h:ed d B a c i b e)(g:Tn f d n)(m:¬f a)(l:¬f c)(j:∀k,B<=k->¬f k):ed n B a c i b e:=⟨h.row.tn g m,h.pf.tn g l,bI h.a_ (λk Z=>g.block k (h.a_.lt k Z).2 (j k (h.a_.lt k Z).1)),bI h.bk (λk Z=>g.block k (h.bk.lt k Z).2 (j k (h.bk.lt k Z).1)),h.wB,h.nB⟩
def Qk(c:List cj)(a:fY)(cap I Q:Nat)(W:ay)(ha:0<c.length->a=some ⟨I,Q,none⟩)(a0:I<W.heap.size)(hr:∀b (h:b<c.length),XA W W.heap.size I (Q+b*6) c[b])(h0:0<c.length)(hl:c.length<=200)(hn:∀x∈c,x.aH.length<=1000/\x.aI.length<=1000)(hz:nO c<=1000000000):
 Calls prog 67 #[.slice a c.length cap] W λe W'=>e=.returned (qy (ie c))/\Below W.heap.size W W':=by
 have:= @B' prog;have C1:=aC (Mr W);obtain rfl:=ha h0;have HR:=aC hr;have HN:=Lw c hn;have a3:=aC hn;go_in;go_wp2_with (go_at_call 96;refine C1.mono ?_;rintro e f⟨d,g,rfl,aM,ab,B,R⟩;have aE:=aC ab)
 have aA:DH W (f.heap.size+2) d g f.heap.size (f.heap.size+1) c 0 ((f.alloc (.cells #[.pointer (some ⟨d,0,none⟩)] 207)).alloc (.map #[] 0)):=by have O:(f.alloc (.cells #[.pointer (some ⟨d,0,none⟩)] 207)).heap.size=f.heap.size+1:=X_ _ _;have ab:=(X5 f.heap.size f).alloc ax (.cells #[.pointer (some ⟨d,0,none⟩)] 207);have aq:=ab.alloc (by omega) (.map #[] 0);have aX:=(X5 (f.alloc (.cells #[.pointer (some ⟨d,0,none⟩)] 207)).heap.size (f.alloc (.cells #[.pointer (some ⟨d,0,none⟩)] 207))).alloc ax (.map #[] 0);have aj:=bF.oj (f.alloc (.cells #[.pointer (some ⟨d,0,none⟩)] 207));rw[O]at aj;exact⟨⟨_,_,(aM _ (by omega)).aD aq⟩,aE.tr aq,by rw[X_,O];exact X0 _,aj,(aF.bq f 207 [_]).aD aX⟩
 have⟨be,bh⟩:=(aM _ ax).size;generalize f.heap.size=N at*;go_loopw [12] (λiv wr=>∃b:Nat,iv=.int .i64 b/\b<=c.length/\DH W (N+2) d g N (N+1) c b wr) (λiv _=>c.length-aV iv)
 case atStart=>exact⟨0,rfl,by omega,aA⟩
 obtain⟨b,rfl,aQ,o⟩:=hrel;have⟨b1,b2,b3,b4,b5,T⟩:=HN b aQ;by_cases hi:b<c.length
 ·have:(b:Int)<c.length:=by omega
  have⟨n,l,am,z,s,Z,no,cb,co,q,y,ao,aS,iX⟩:=HR b hi;have⟨aO,a6⟩:=a3 c[b] (Ym hi);have av:=aC (ud c b hi);have⟨S,vc,v⟩:=o.wm;have ae:=o.aP;have:=o.size;have t:∀(V:Nat) (u:az),[aK c[b].name,.bool c[b].ph,.slice n c[b].aH.length z,.slice am q y,aK c[b].stem,.slice l c[b].aI.length s][V]?=some u->wr.cell? ⟨I,Q+b*6+V,none⟩=some u:=λV u hj=>(ae.cell (p:=⟨I,_,none⟩) a0).trans (ao V u hj);have:wr.cell? ⟨I,Q+b*6,none⟩=some (aK c[b].name):=t 0 _ rfl;have:=t 1 _ rfl;have:=t 2 _ rfl;have:=t 3 _ rfl;have:=t 4 _ rfl;have:=t 5 _ rfl;have:=FK (da (dm c b).2 c[b].name b) (dm c b).1 c[b].ph c[b].name c[b].aH;have Y:Hid (0<c[b].aH.length->n=some ⟨Z,no,none⟩/\Z <W.heap.size/\eE W Z no c[b].aH):=aS;have aa:Hid (0<c[b].aI.length->l=some ⟨cb,co,none⟩/\cb<W.heap.size/\eE W cb co c[b].aI):=iX;have ap:=yx c[b].name b 2147483648 (by omega) (dm c b).2 (λx hx=>by have:=T x hx;omega);have aU:=aC ap;generalize hP:(dm c b).1=M at*;generalize hF:(dm c b).2=F at*;have ar:=aC o.Dr;have a7:=o.df;rw[hF]at ar;generalize hx:c[b]=x at*;have⟨name,j,i,H,E⟩:=x;dsimp only at*;have a8:(iH F).length<maxLen:=by unfold iH maxLen;rw[Yk];omega
  have O:(wr.alloc (.cells #[.int .i64 b] 3)).heap.size=wr.heap.size+1:=X_ _ _;have q1:=(X5 wr.heap.size wr).alloc ax (.cells #[.int .i64 b] 3);have L:=q1.alloc (by omega) (.cells #[aK name,.bool j,.slice n i.length z,.slice am q y,aK H,.slice l E.length s] 206);have q3:=(X5 _ (wr.alloc (.cells #[.int .i64 b] 3))).alloc ax (.cells #[aK name,.bool j,.slice n i.length z,.slice am q y,aK H,.slice l E.length s] 206);have rI:=(aF.bq wr 3 [.int .i64 b]).aD q3;have rS:=aF.bq (wr.alloc (.cells #[.int .i64 b] 3)) 206 [aK name,.bool j,.slice n i.length z,.slice am q y,aK H,.slice l E.length s];rw[O]at rS;have C:Hid (Below W.heap.size W _/\ed _ (N+2) d g M S vc/\bF _ (N+1) (iH F)/\aF _ N 207 _/\aF _ wr.heap.size 3 _/\aF _ (wr.heap.size+1) 206 _):=⟨ae.tr L,v.aD L,ar.aD L,a7.aD L,rI,rS⟩;have:((wr.alloc (.cells #[.int .i64 b] 3)).alloc (.cells #[aK name,.bool j,.slice n i.length z,.slice am q y,aK H,.slice l E.length s] 206)).heap.size=wr.heap.size+2:=by rw[X_,O]
  have CS:=λ(w:ay) (h1:ed w (N+2) d g M S vc) (h2:N+2<=w.heap.size) (h3:bF w (N+1) (iH (da F name b))) (h4:Below W.heap.size W w)=>Mf (N+2) W.heap.size d g (N+1) M S vc (da F name b) name H j i n z Z no (.slice am q y) w h1 h2 B R h3 (by omega) (by omega) aU (λe=>⟨(Y e).1,(Y e).2.1,(Y e).2.2.aP h4 (Y e).2.1⟩) aO (by omega) (by omega);have CK:=aC (λ(w:ay) (al aB:az) (h1:ed w (N+2) d g (iR (da F name b) M j name i) al aB) (h2:N+2<=w.heap.size) (h4:Below W.heap.size W w) (hS:aF w (wr.heap.size+1) 206 [aK name,.bool j,.slice n i.length z,.slice am q y,aK H,.slice l E.length s]) (hX:aF w N 207 [.pointer (some ⟨d,0,none⟩)]) (hI:aF w wr.heap.size 3 [.int .i64 b])=>N4 (N+2) W.heap.size d g (wr.heap.size+1) N wr.heap.size b (iR (da F name b) M j name i) al aB _ _ _ _ _ E l s cb co w h1 h2 B R hS hX hI (by omega) (λe=>⟨(aa e).1,(aa e).2.1,(aa e).2.2.aP h4 (aa e).2.1⟩) a6 (by omega) (by omega));unfold s_ Cu aK at*;go_wp2_with (first|(at_mapUpdate;refine q_ _ rfl _ _ _ 179 rfl 9 3 rV Yj (N+1) (iH F) rfl C.2.2.1 a8 name rfl (.int .i64 b) rfl ?_;intro w3 ad aJ;rw[xZ]at ad;have r:=mF (p:=λk=>k=N+1) aJ rfl;have:=r.size;have aw:=aC (C.1.trans (r.aP (by omega) (λk e=>by omega)));have G:=C.2.1.tn r (by omega) (by omega) (λk hk e=>by omega);have au:=C.2.2.2.1.tn r (by omega);have a2:=aC (C.2.2.2.2.1.tn r (by omega));have D:=aC (C.2.2.2.2.2.tn r (by omega));have:=au.cell? (i:=0) rfl;have:=D.cell? (i:=0) rfl;have:=D.cell? (i:=1) rfl;have:=D.cell? (i:=2) rfl;have:=D.cell? (i:=3) rfl;have:=D.cell? (i:=4) rfl)|(go_at_call 97;refine κ (CS _ G (by omega) ad aw) λw4⟨bb,bf,ai,A⟩=>?_;have:=A.tn.size;have aG:=aw.trans (fM.aP G A B R);have ag:=aC (au.kn G A (by decide) (by decide) (by decide));have aR:=aC (a2.kn G A (by decide) (by decide) (by decide));have aY:=D.kn G A (by decide) (by decide) (by decide);have aZ:=ad.kn G A (by omega) (by omega);have:=ag.cell? (i:=0) rfl;have X:=aC ai)|(go_at_call 98;refine κ (CK _ _ _ X (by omega) aG aY ag aR) λw5⟨a',a9,ak,K⟩=>?_;have aW:DH W (N+2) d g N (N+1) c (b+1) w5:=⟨⟨_,_,by rw[av.u];exact ak⟩,aG.trans (fM.aP X K B R),Ye (by omega) K.tn.size,by rw[av.u];exact aZ.kn X K (by omega) (by omega),ag.kn X K (by decide) (by decide) (by decide)⟩))
  go_roundw
  case rel=>exact⟨b+1,by go_num,by omega,aW⟩
  simp only[aV];omega
 have aT:b=c.length:=by omega
 subst aT;have:¬(c.length:Int)<c.length:=by omega
 have:=o.df.cell? (i:=0) rfl;have⟨S,vc,v⟩:=o.wm;have:=TN c c.length;have m:=OK _ _ _ _ _ _ _ v (by omega) (b4 h0) (by omega);have U:Hid (ie c=oW (dm c c.length).1):=rfl;have aL:=aC o.aP;have:=v.size.1;cases hp:oW (dm c c.length).1 with
 |none=>
  rw[hp]at m U;unfold qy at m;have J:=aC m;go_wp2_with (go_at_call 102;refine κ J λw9 P=>?_;have af:=aC (aL.trans (P.aP (Ye B (by omega)) (λk e=>by omega))))
  go_ret2
  exact⟨by rw[U.u];rfl,af⟩
 |some bg=>
  rw[hp]at m U;unfold qy at m;have J:=aC m;go_wp2_with (go_at_call 102;refine κ J λw9 P=>?_;have af:=aC (aL.trans (P.aP (Ye B (by omega)) (λk e=>by omega))))
  go_ret2
  exact⟨by rw[U.u];rfl,af⟩
def Qe(c:fv)(a:fY)(r b f:Nat)(W:ay)(n:0<c.length->a=some ⟨b,f,none⟩/\eE W b f c)(l:0<c.length->b<W.heap.size)(o:c.length<=r)(p:(Lib.join c [32]).length<=1073741824)(q:c.length<=1073741824):
 γ 144 #[.slice a c.length r,.string ⟨#[32]⟩] W (σ (Lib.join c [32])):=by
 by_cases i:0<c.length
 ·obtain⟨rfl,m⟩:=n i;have k:(c.map λx=>(⟨x.toArray⟩:aA)).map (λy:aA=>y.data.toList)=c:=by rw[k6];exact(E1 (λx _=>rfl)).trans (af1 c)
  have:=Any.strings_Join Tryz.KF Tryz.vI b f r (c.map λx=>(⟨x.toArray⟩:aA)) ⟨#[32]⟩ W (λj x d=>by
   rw[Za]at d;cases g:c[j]? with
   |none=>rw[g]at d;cases d
   |some y=>rw[g]at d;cases d;exact m j y g) (l i) (by rw[Yk];omega) (by rw[Yk];exact o) (by rw[k];show(Lib.join c [32]).length<=_;omega)
  rw[Yk,k]at this;exact this
 have:c=[]:=ZZ (by omega);subst this;refine(Any.strings_Join_none Tryz.KF Tryz.vI a r ⟨#[32]⟩ W).mono ?_;rintro e h⟨rfl,rfl⟩;exact⟨rfl,X5 _ _⟩
def ox(c first d b:aj)(a:UInt8):jj:=if a=64 then some c else if a=60 then some first else if a=94 then some d else if a=42 then some b else none
structure tN(nb f al:Nat)(name:aj)(ph:Bool)(v1 v2:az)(first all stem:aj)(W:ay):Prop where
 xA:aF W nb 197 [aK name,.bool ph,v1,v2,aK stem]
 first:aF W f 9 [aK first]
 all:aF W al 9 [aK all]
def tN.aD{nb:Nat}{j:Bool}(h:tN nb c a f j e b i k l n)(g:μ n d):tN nb c a f j e b i k l d:=⟨h.xA.aD g,h.first.aD g,h.all.aD g⟩
def xt(b f a:Nat):az:=.func (.func 145) #[] #[π b,π f,π a]
def Vz(c:lN)(q f s H:Nat)(w first all b:aj)(L:Bool)(u J:az)(R:q<H)(P:f<H)(T:s<H)(Q:H<=c.r)(S:H<=c.mm)(M:w.length<=1073741824)(N:first.length<=1073741824)(D:all.length<=1073741824)(F:b.length<=1073741824):
 sx c (xt q f s) (ox w first all b) (tN q f s w L u J first all b):=by
 refine⟨⟨_,_,rfl,mL adp (by kernel_rfl) rfl,λW o a=>?_⟩,λW U h v=>⟨h.xA.tn v (by omega),h.first.tn v (by omega),h.all.tn v (by omega)⟩⟩;show Calls prog 145 #[.int .u8 a.toNat,π q,π f,π s] W _;have C:=o.xA.cell? (i:=0) rfl;have O:=o.xA.cell? (i:=4) rfl;have I:=o.first.cell? (i:=0) rfl;have B:=o.all.cell? (i:=0) rfl;have d:∀(k:UInt8),a≠k->((a.toNat:Int)==k.toNat)=false:=λk A=>by rw[Yi];exact λe=>A (p7.1 (by omega))
 unfold aK at C O I B;have l:∀(m:aj) (p:Bool),ox w first all b a=(if p then some m else none)->m.length<=1073741824->(∃(x:aj) (z:Bool),(.returned (.tuple #[σ m,.bool p]):Ending)=.returned (.tuple #[σ x,.bool z])/\ox w first all b a=(if z then some x else none)/\x.length<=1073741824)/\μ W W:=λm p e G=>⟨⟨m,p,rfl,e,G⟩,X5 _ _⟩;by_cases g:a=64
 ·have E:Hid (ox w first all b a=some w):=by rw[g];rfl
  have:((a.toNat:Int)==64)=true:=by rw[g];rfl
  go_in;go_wp2
  go_ret2
  exact l w true E M
 by_cases j:a=60
 ·have E:Hid (ox w first all b a=some first):=by rw[j];rfl
  have:((a.toNat:Int)==64)=false:=d 64 g;have:((a.toNat:Int)==60)=true:=by rw[j];rfl
  go_in;go_wp2
  go_ret2
  exact l first true E N
 by_cases n:a=94
 ·have E:Hid (ox w first all b a=some all):=by rw[n];rfl
  have:((a.toNat:Int)==64)=false:=d 64 g;have:((a.toNat:Int)==60)=false:=d 60 j;have:((a.toNat:Int)==94)=true:=by rw[n];rfl
  go_in;go_wp2
  go_ret2
  exact l all true E D
 by_cases t:a=42
 ·have E:Hid (ox w first all b a=some b):=by rw[t];rfl
  have:((a.toNat:Int)==64)=false:=d 64 g;have:((a.toNat:Int)==60)=false:=d 60 j;have:((a.toNat:Int)==94)=false:=d 94 n;have:((a.toNat:Int)==42)=true:=by rw[t];rfl
  go_in;go_wp2
  go_ret2
  exact l b true E F
 have E:Hid (ox w first all b a=none):=by
  show ox w first all b a=none;unfold ox;rw[Yb g,Yb j,Yb n,Yb t]
 have:((a.toNat:Int)==64)=false:=d 64 g;have:((a.toNat:Int)==60)=false:=d 60 j;have:((a.toNat:Int)==94)=false:=d 94 n;have:((a.toNat:Int)==42)=false:=d 42 t;go_in;go_wp2
 go_ret2
 exact l [] false E (by simp)
def Of(w j:aj)(k:Bool)(c:fv)(a u:fY)(F b q h i:Nat)(W:ay)(o:0<c.length->a=some ⟨b,q,none⟩/\eE W b q c)(m:0<c.length->b<W.heap.size)(I:c.length<=F)(G:(Lib.join c [32]).length<=1073741824)(H:c.length<=1073741824):
 Calls prog 93 #[s_ w k (.slice a c.length F) (.slice u h i) j] W λe z=>∃A f D,e=.returned (xt A f D)/\tN A f D w k (.slice a c.length F) (.slice u h i) (c.headD []) (Lib.join c [32]) j z/\μ W z:=by
 have C:(W.alloc (.cells #[aK w,.bool k,.slice a c.length F,.slice u h i,aK j] 197)).heap.size=W.heap.size+1:=X_ _ _;have B:=(X5 W.heap.size W).alloc ax (.cells #[aK w,.bool k,.slice a c.length F,.slice u h i,aK j] 197);have d:Hid (∀x:az,Below W.heap.size W ((W.alloc (.cells #[aK w,.bool k,.slice a c.length F,.slice u h i,aK j] 197)).alloc (.cells #[x] 9))/\aF ((W.alloc (.cells #[aK w,.bool k,.slice a c.length F,.slice u h i,aK j] 197)).alloc (.cells #[x] 9)) W.heap.size 197 [aK w,.bool k,.slice a c.length F,.slice u h i,aK j]/\aF ((W.alloc (.cells #[aK w,.bool k,.slice a c.length F,.slice u h i,aK j] 197)).alloc (.cells #[x] 9)) (W.heap.size+1) 9 [x]):=λx=>by have E:=aF.bq (W.alloc (.cells #[aK w,.bool k,.slice a c.length F,.slice u h i,aK j] 197)) 9 [x];rw[C]at E;exact⟨B.alloc (by omega) _,(aF.bq W 197 [aK w,.bool k,.slice a c.length F,.slice u h i,aK j]).alloc _,E⟩
 have p:=aC (λ(Z:ay) (y:Below W.heap.size W Z)=>Qe c a F b q Z (λe=>⟨(o e).1,(o e).2.aP y (m e)⟩) (λe=>Yo (m e) y.size) I G H);unfold s_
 match c,o,m,d,p with
 |[],_,_,d,p=>
  unfold aK at*;dsimp only[List.length_nil,List.headD_nil] at*;go_in;go_wp2_with (go_at_call 144;refine(p _ (d (ε)).1).mono ?_;rintro e t⟨rfl,g⟩;have v:=tN.mk (((d (ε)).2.1.aD g).alloc (.cells #[σ (Lib.join [] [32])] 9)) (((d (ε)).2.2.aD g).alloc (.cells #[σ (Lib.join [] [32])] 9)) (aF.bq t 9 [σ (Lib.join [] [32])]);have s:=((d (ε)).1.trans (g.mono (d (ε)).1.size)).alloc (by have:=g.size;have:=(d (ε)).1.size;omega) (.cells #[σ (Lib.join [] [32])] 9))
  go_ret;exact⟨_,_,_,rfl,v,s⟩
 |x::l,o,m,d,p=>
  obtain⟨rfl,r⟩:=o (by simp);have:W.cell? ⟨b,q,none⟩=some (aK x):=r 0 x rfl;have:=m (by simp);have:(0:Int)<((x::l).length:Nat):=by simp only[Ya];omega
  unfold aK at*;dsimp only[List.headD_cons] at*;generalize L:(x::l).length=n at*;go_in;go_wp2_with (go_at_call 144;refine(p _ (d (σ x)).1).mono ?_;rintro e t⟨rfl,g⟩;have v:=tN.mk (((d (σ x)).2.1.aD g).alloc (.cells #[σ (Lib.join (x::l) [32])] 9)) (((d (σ x)).2.2.aD g).alloc (.cells #[σ (Lib.join (x::l) [32])] 9)) (aF.bq t 9 [σ (Lib.join (x::l) [32])]);have s:=((d (σ x)).1.trans (g.mono (d (σ x)).1.size)).alloc (by have:=g.size;have:=(d (σ x)).1.size;omega) (.cells #[σ (Lib.join (x::l) [32])] 9))
  go_ret;exact⟨_,_,_,rfl,v,s⟩
structure cI where
 name:aj
 ph:Bool
 aH:fv
 stem:aj
 aI:List (aj×Nat)
def j9(N:aj->Nv)(e:UInt8->jj):List (aj×Nat)->Nat->fv->(Nat×Nat)⊕(Nat×fv)->Prop
 |[],k,b,d=>d=.inr (k,b)|c::f,k,b,d=>∃a:Er,b_ N e [] 0 [] c.1 a/\(if a.er≠0 then d=.inl (a.er,c.2) else if Mk.cut a.bK=[] then j9 N e f k b d else j9 N e f (k+1) (if k+1<=500 then b++[a.bK] else b) d)
def cI.sg(x:cI):UInt8->jj:=ox x.name (x.aH.headD []) (Lib.join x.aH [32]) x.stem
def jB(N:aj->Nv):List cI->Nat->List cj->(Nat×Nat)⊕(Nat×List cj)->Prop
 |[],k,b,a=>a=.inr (k,b)
 |x::d,k,b,a=>∃G,j9 N x.sg x.aI k [] G/\(match G with
  | .inl e=>a=.inl e
  | .inr (f,c)=>jB N d f (b++[⟨x.name,x.ph,x.aH,x.stem,c⟩]) a)
def sr(W:ay)(b c:Nat)(d:List (aj×Nat)):Prop:=∀(a:Nat) (x:aj×Nat),d[a]?=some x->W.cell? ⟨b,c+a*2,none⟩=some (aK x.1)/\W.cell? ⟨b,c+a*2+1,none⟩=some (ι (x.2:Int))
def sr.aP{f:List (aj×Nat)}(h:sr n c a f)(i:Below j n d)(L:c<j):sr d c a f:=λg x e=>⟨(i.cell (p:=η c _) L).trans (h g x e).1,(i.cell (p:=η c _) L).trans (h g x e).2⟩
def D4(W:ay)(L b h:Nat)(x:cI):Prop:=∃(d i:fY) (e g c j a f:Nat),
 Dy W b h [aK x.name,.bool x.ph,.slice d x.aH.length e,.slice i x.aI.length g,aK x.stem]/\x.aH.length<=e/\(0<x.aH.length->d=some ⟨c,j,none⟩/\c<L/\eE W c j x.aH)/\(0<x.aI.length->i=some ⟨a,f,none⟩/\a<L/\sr W a f x.aI)
def qO(w:ay)(L:Nat)(x:cj)(c:f'):Prop:=∃(d e n:fY) (f k b l a m i j:Nat),
 c=[aK x.name,.bool x.ph,.slice d x.aH.length f,.slice n i j,aK x.stem,.slice e x.aI.length k]/\(0<x.aH.length->d=some ⟨b,l,none⟩/\b<L/\eE w b l x.aH)/\
 (0<x.aI.length->e=some ⟨a,m,none⟩/\a<w.heap.size/\(∃g h,w.heap[a]?=some (.cells g 9 h))/\eE w a m x.aI)
def Hj(h:d.heap[c]?=n.heap[c]?):d.cell? ⟨c,a,none⟩=n.cell? ⟨c,a,none⟩:=by unfold World.cell?;simp only;rw[h]
def eE.same(h:eE n c a g)(e:d.heap[c]?=n.heap[c]?):eE d c a g:=λf x w=>(Hj e).trans (h f x w)
def qO.same{x:cj}(h:qO n c x C)(B:n.heap.size<=d.heap.size)(y:∀k,k<c->d.heap[k]?=n.heap[k]?)(r:∀(k:Nat) (a:hZ) (b:Nat×Nat),n.heap[k]?=some (Obj.cells a 9 b)->d.heap[k]?=n.heap[k]?):qO d c x C:=by
 have⟨u,z,w,L,s,l,D,j,E,o,v,e,t,A⟩:=h;refine⟨u,z,w,L,s,l,D,j,E,o,v,e,λq=>?_,λq=>?_⟩
 ·have⟨g,i,f⟩:=t q;exact⟨g,i,f.same (y l i)⟩
 have⟨g,i,⟨a,b,f⟩,p⟩:=A q;have m:=r j a b f;exact⟨g,by omega,⟨a,b,m.trans f⟩,p.same m⟩
def kx(w:ay)(L:Nat):List cj->f'->Prop
 |[],c=>c=[]
 |x::d,c=>∃a b,c=a++b/\qO w L x a/\kx w L d b
theorem kx.same{w:ay}{L:Nat}(i:w.heap.size<=d.heap.size)(j:∀k,k<L->d.heap[k]?=w.heap[k]?)(f:∀(k:Nat) (l:hZ) (o:Nat×Nat),w.heap[k]?=some (Obj.cells l 9 o)->d.heap[k]?=w.heap[k]?):∀(g:List cj) (c:f'),kx w L g c->kx d L g c
 |[],_,h=>h
 |_::m,_,⟨a,b,e,n,p⟩=>⟨a,b,e,qO.same n i j f,kx.same i j f m b p⟩
theorem kx.gC{L:Nat}:∀(g:List cj) (c:f') (x:cj) (d:f'),kx n L g c->qO n L x d->kx n L (g++[x]) (c++d)
 |[],c,x,d,h,f=>by have:c=[]:=h;subst this;exact⟨d,[],by simp,f,rfl⟩
 |y::i,_,x,d,⟨a,b,e,k,j⟩,f=>by subst e;exact⟨a,b++d,by simp,k,kx.gC i b x d j f⟩
def qO.length{x:cj}(h:qO d a x C):C.length=6:=by obtain⟨g,j,k,b,e,f,l,c,m,L,i,rfl,-⟩:=h;rfl
theorem kx.at:∀(i:List cj) (c:f') (_:kx n j i c) (f:Nat) (h:f<i.length),∃a,qO n j i[f] a/\∀d,d<6->c[f*6+d]?=a[d]?
 |x::k,_,⟨a,b,e,g,l⟩,0,_=>by subst e;refine⟨a,g,λd L=>?_⟩;rw[L1,YO,Zh (by rw[g.length];exact L)]
 |x::k,_,⟨a,b,e,g,l⟩,f+1,h=>by subst e;have⟨m,w,o⟩:=kx.at k b l f (by simpa using h);refine⟨m,w,λd L=>?_⟩;rw[YH (by rw[g.length];omega),g.length,show (f+1)*6+d-6=f*6+d by omega];exact o d L
 |[],_,_,_,h=>by simp at h


