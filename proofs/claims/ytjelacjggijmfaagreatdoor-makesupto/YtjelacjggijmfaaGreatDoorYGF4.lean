/- . -/
import Derived.Test.YtjelacjggijmfaaGreatDoorYGE8
import Derived.Test.YtjelacjggijmfaaGreatDoorYEG1
import Derived.Test.YtjelacjggijmfaaGreatDoorYED6
set_option linter.all false
set_option maxHeartbeats 8000000
set_option maxRecDepth 1000000
namespace Go.Proofs.YtjelacjggijmfaaGreatDoor
open Pl Mk Cp Proofs.Tryz
open RowKit MapKept ChangeMaps Maps
variable {o y eL:Nat×cT}{W Y n O w' L0 W':ay}{L wk bf bi i E N C k dx B wb bb er ln:Nat}{c:Ad}{rb:Nat->Nat}{s:St}{vp ve v2 vo vv r ad vN vO dI eq:az}{ef:ga}{fs m:fy}{us:List (Nat×fv)}{z os':f'}{R:hZ}{Q:Nat×Nat}{U a T A:fv}{P:St->Prop}{dH:St->aj->Nat×Nat×St}{j D S:aj}{b:Bk}{G:aj->Prop}{qv:List Vq}{f:List (fv)}{J ag e7:jb}{M aa fl:Nat->Bool}{v ab et:Wd}{K ey:aj->Nat}{d:List cj}{I fb:aj->Bool}{H:(Nat×Nat)⊕(Nat×List cj)}{p eR:aj×Nat×Nat}{e:Ending}{xs eS:List ((Nr×Bool)×az)}{V Z h:Wk}{dl:aj->Nv}{dn dp:gb}{ds:cT}{dT:cI×Nat}{dY d6:Wk->aj->Option (Nat×Wk)}{d7 d8:List Ru}{d9:cI}{eg:cj}{ei ek:List (cI×Nat)}{el:Nr}{em:Wr}{en:List (Nr×Bool)}{es:Nat×Wk}{eu:Nat->aj->Nat}{e5:Ru}{e6:eh}{fc:NL}{fd:(Nat×Nat)⊕fv}
def ee(s:St)(b:fy)(c:List (Nat×fv)):Nat->Nat×cT->Option (Nat×cT)
 |0,a=>if a.1≠0\/a.2.opn=[] then some a else none
 |n+1,a=>if a.1≠0\/a.2.opn=[] then some a else ee s b c n (gd s b c a.2)
def iy(s:St)(c:fy)(b:List (Nat×fv))(d a:Nat×cT):Prop:=∃n,ee s c b n d=some a
def iy.stop(h:o.1≠0\/o.2.opn=[]):iy s fs us o o:=⟨0,by rw[ee,Yd h]⟩
def iy.step(h:¬(o.1≠0\/o.2.opn=[]))(a:iy s fs us (gd s fs us o.2) y):iy s fs us o y:=by have⟨n,d⟩:=a;exact⟨n+1,by rw[ee,Yb h];exact d⟩
structure xj(s:St)(fs:fy)(us:List (Nat×fv))(I:cT->Prop)(m:cT->Nat):Prop where
 step:∀t x,I t->t.opn.getLast?=some x->(gd s fs us t).1=0->I (gd s fs us t).2/\m (gd s fs us t).2<m t
 lk:∀t x,I t->t.opn.getLast?=some x->x.2<=x.1.aH.length/\x.1.aH.length<=4294967296/\∀y∈x.1.aH,y.length<=1073741824
 sz:∀t,I t->t.bM.length<=4294967296/\t.opn.length<=4294967296
section
variable {X:ay}{st:Nat}{l:dr}{aQ:Int}{t:cT}
structure DL(W:ay)(L wk st:Nat)(c:Ad)(rb:Nat->Nat)(s:St)(vp:az)(l:dr)(bf bi:Nat)(ve:az)(ef:ga)(fs:fy)(aQ:Int)(us:List (Nat×fv))(v2:az)(I:cT->Prop)(m:cT->Nat)(p0 p:Nat×cT)(gk:Nat)(X:ay):Prop where
 fF:mV X L wk st c rb s vp l bf bi ve ef fs aQ us v2 p.2
 aP:Below L W X
 tS:p.1=0->I p.2/\m p.2<gk
 cS:∀r,iy s fs us p r->iy s fs us p0 r
def Tr(b:aj)(k:Nat)(D:cT->Prop)(m:cT->Nat)(r:xj s fs us D m)(h:mV W L wk st c rb s vp l bf bi ve ef fs aQ us v2 t)(g:(dW s fs us t b).1=0->D (dW s fs us t b).2)(A:∀x∈us,x.1<s.aG.length/\(bT s x.1).tg≠[]/\(∀y∈(bT s x.1).tg,y.length<=2000)/\x.2.length<=2000/\∀n∈x.2,n.length<=2000)(B:us.length<=1073741824)(C:Ok s k)(U:b.length<=1073741824)(ah:t.bM.length<=4294967296)(ag:t.opn.length<=4294967296):
 Calls prog 92 #[π wk,σ b] W λe W'=>∃z,iy s fs us (dW s fs us t b) z/\e=.returned (ι (z.1:Int))/\mV W' L wk st c rb s vp l bf bi ve ef fs aQ us v2 z.2/\Below L W W':=by
 have K:=aC (GI b k h A B C U ah ag);have Y:∀w f x,mV w L wk st c rb s vp l bf bi ve ef fs aQ us v2 f->D f->f.opn.getLast?=some x->Calls prog 143 #[π wk] w λe W'=>e=.returned (ι ((gd s fs us f).1:Int))/\mV W' L wk st c rb s vp l bf bi ve ef fs aQ us v2 (gd s fs us f).2/\Below L w W':=λw f x hw o j=>TC k hw A B C (r.sz f o).1 (r.sz f o).2 x j (r.lk f x o j).1 (r.lk f x o j).2.1 (r.lk f x o j).2.2;have T:=aC g;clear h g;generalize dW s fs us t b=v at*;go_in;go_wp2_with (go_at_call 142;refine K.mono ?_;clear K;rintro e P⟨rfl,Z,ae⟩;have ad:Hid (DL W L wk st c rb s vp l bf bi ve ef fs aQ us v2 D m v v (m v.2+1) P):=⟨Z,ae,λe=>⟨T e,t' _⟩,λz R=>R⟩)
 go_loopg [5] (m v.2+1) (λgk X wr=>∃M:Nat×cT,X=ι (M.1:Int)/\Hid (DL W L wk st c rb s vp l bf bi ve ef fs aQ us v2 D m v M gk wr))
 case atStart=>exact⟨v,rfl,ad⟩
 obtain⟨M,rfl,a⟩:=hrel;have⟨p,d⟩:=M;simp only at a⊢;have⟨vo,vv,O,qv,Q,S,hv⟩:=a.fF;obtain⟨av,cv,rfl⟩:=fp Q.opn;have:=Q.fm.row.cell? (i:=4) rfl;have I:O.length=d.opn.length:=by rw[<-S,Yk]
 clear Q S hv;by_cases E:p=0
 ·have:((p:Int)==0)=true:=by rw[Zj];omega
  by_cases hz:0<O.length
  ·have V:¬((p,d).1≠0\/(p,d).2.opn=[]):=λq=>by
    obtain q|q:=q
    ·exact q E
    simp only at q;rw[q,Yr]at I;omega
   have⟨o,F⟩:=a.tS E;simp only at o F;cases j:d.opn.getLast? with
   |none=>rw[abx]at j;rw[j,Yr]at I;omega
   |some x=>
    have CG:=Y wr d x a.fF o j;have HN:∀G,mV G L wk st c rb s vp l bf bi ve ef fs aQ us v2 (gd s fs us d).2->Below L wr G->DL W L wk st c rb s vp l bf bi ve ef fs aQ us v2 D m v (gd s fs us d) (m d) G:=λG N b2=>⟨N,a.aP.trans b2,λe=>r.step d x o j e,λz R=>a.cS z (iy.step V R)⟩;clear I E V j a;generalize gd s fs us d=g2 at*;go_wp2_with (go_at_call 143;refine κ CG λG⟨N,ac⟩=>?_;have af:=HN G N ac)
    go_roundg (m d)
    case measure=>exact F
    exact⟨g2,rfl,af⟩
  have u:(p,d).1≠0\/(p,d).2.opn=[]:=.inr (ZZ (by simp only;omega));have HR:=a.cS _ (iy.stop u);have H:=a.fF;have J:=a.aP;clear I E u a;go_wp2
  go_ret;first|exact⟨_,_,HR,rfl,H,J⟩|exact⟨_,HR,rfl,H,J⟩
 have:((p:Int)==0)=false:=by rw[Yi];omega
 have HR:=a.cS _ (iy.stop (.inl E));have H:=a.fF;have J:=a.aP;clear I E a;go_wp2
 go_ret;first|exact⟨_,_,HR,rfl,H,J⟩|exact⟨_,HR,rfl,H,J⟩
end
def gU:cT:=⟨[],[],[]⟩
section
variable {X:ay}{st:Nat}{l:dr}{aQ:Int}{t:cT}
def uM{o:Nat}(h:aF W N 193 z)(u:az){e:TypeId}(a:W.heap[k]?=some (Obj.cells R e Q))(d:e≠193):(W.ψ N o u).heap[k]?=W.heap[k]?:=Ys W (η N o) u k (λq=>by simp only at q;unfold aF at h;rw[q,h]at a;cases a;exact d rfl)
def KH{o:Nat}(h:aF W N 193 z)(u:az):Bl W (W.ψ N o u):=⟨λ_ _ _ a=>uM h u a (by decide),λ_ _ _ a=>uM h u a (by decide),λ_ _ _ a=>uM h u a (by decide),λ_ _ _ a=>uM h u a (by decide),λ_ _ _ a=>uM h u a (by decide)⟩
def lO.sp(h:aF W N 193 z)(u:az)(a:lO W rb vp us):lO (W.ψ N i u) rb vp us:=by
 obtain q|⟨b,r,s,k,⟨l,g,c⟩,p⟩:=a
 ·exact .inl q
 have e:=uM (o:=i) h u c (by decide);refine .inr ⟨b,r,s,k,⟨l,g,e.trans c⟩,λj x m=>?_⟩;have⟨o,n,d,f⟩:=p j x m;refine⟨?_,n,?_,f.bl (KH h u)⟩
 ·unfold World.cell? at*;rw[e];exact o
 unfold World.cell? at*;rw[e];exact d
def Xa(h:L<=wk)(I:L<=st)(a:oF n wk c rb s vp l bf bi ve ef fs aQ (ς) (.map (some st)) (ς) (ς))(D:lO n rb v2 us)(r:bF n st [])(H:L<=n.heap.size)(J:c.nm<L/\c.bt<L/\c.pb<L/\c.bx<L/\bf<L/\bi<L/\0<L):
 mV (n.ψ wk 2 v2) L wk st c rb s vp l bf bi ve ef fs aQ us v2 gU:=by have d:=(X5 L n).setCell (p:=η wk 2) h v2;have⟨v,x,i,E,z,M,j⟩:=J;refine⟨_,_,[],[],⟨⟨a.row.set 2 v2,a.bm.bl (KH (o:=2) a.row v2) (d.block _ v) (d.block _ x) (d.block _ i),a.pw.tn (Tn.set (p:=λk=>k=wk) n (η wk 2) v2 rfl) (by omega) (by omega) (by omega),?_⟩,D.sp a.row v2,r.setCell (CU (nV a.row r)) v2,YG _ _ _ _,λq f=>(by cases f),YG _ _ _ _,λq f=>(by cases f),h,I,Ye H d.size,⟨v,x,i,E,z,M,j⟩⟩,rfl,rfl⟩;have⟨m,G⟩:=a.fQ;exact⟨m,(d.cell (p:=η 0 0) j).trans G⟩
def za(s:St)(c:fy)(g:aj)(W:ay)(e:Ending)(W':ay):Prop:=
 μ W W' /\((g=[]/\e=.returned (.tuple #[ς,ι 8]))\/(g≠[]/\2000<g.length/\e=.returned (.tuple #[ς,ι 5]))\/
  (g≠[]/\g.length<=2000/\∃a,iy s c (cJ s c s.bJ) (dW s c (cJ s c s.bJ) gU g) a/\
   ((a.1≠0/\e=.returned (.tuple #[ς,ι (a.1:Int)]))\/(a.1=0/\100<a.2.cL.length/\e=.returned (.tuple #[ς,ι 5]))\/
     (a.1=0/\a.2.cL.length<=100/\∃(d:az) (b:List Vq),e=.returned (.tuple #[d,ι 0])/\W'.ownsRow W.heap.size 197 5 d b.length (b.flatMap mz)/\(∀q∈b,lP W' q)/\b.map Vq.nd=a.2.cL))))
def SM(Z g:aj)(k:Nat)(Q:(Z=g/\Z≠[])\/(Z=[]/\g=s.first))(G:cT->Prop)(m:cT->Nat)(P:xj s fs (cJ s fs s.bJ) G m)(d:(dW s fs (cJ s fs s.bJ) gU g).1=0->G (dW s fs (cJ s fs s.bJ) gU g).2)(f:BM W c rb s vp l)(N:PW W c.bx bf bi ve ef fs aQ)(F:dq W)(E:Ok s k)(j:g≠[])(v:g.length<=2000):
 Calls prog 65 #[π c.bb,π c.bx,σ Z] W λe W'=>za s fs g W e W':=by
 have:= @B' prog;have:g.isEmpty=false:=by rw[<-E3,ae0];exact j
 have z1:(W.alloc (.map #[] 0)).heap.size=W.heap.size+1:=X_ _ _;have I:=((X5 W.heap.size W).alloc ax (.map #[] 0)).alloc (by omega) (.cells #[π c.bb,π c.bx,ς,.map (some W.heap.size),ς,ς] 193);have V:=aF.bq (W.alloc (.map #[] 0)) 193 [π c.bb,π c.bx,ς,.map (some W.heap.size),ς,ς];rw[z1]at V;have mS:=(bF.oj W).aD ((X5 _ (W.alloc (.map #[] 0))).alloc ax (.cells #[π c.bb,π c.bx,ς,.map (some W.heap.size),ς,ς] 193));have ak:c.nm<W.heap.size/\c.bt<W.heap.size/\c.pb<W.heap.size/\c.bx<W.heap.size/\bf<W.heap.size/\bi<W.heap.size/\0<W.heap.size:=⟨f.aX.lt,f.iL.lt,f.j8.lt,N.row.lt,N.aW.lt,by obtain⟨l,q,-⟩:=N.first;exact q.lt,xe F⟩;have ag:∀i∈s.bJ,i<s.aG.length/\(bT s i).nd.length<=2000/\∀n∈(bT s i).nd,n.length<=2000:=λi J=>⟨f.pl i J,(rC E (f.pl i J)).nl,(rC E (f.pl i J)).nw⟩;have:=E.pt;have:=E.jo;have Y:∀x∈cJ s fs s.bJ,x.1<s.aG.length/\(bT s x.1).tg≠[]/\(∀y∈(bT s x.1).tg,y.length<=2000)/\x.2.length<=2000/\∀n∈x.2,n.length<=2000:=λx hx=>by unfold cJ at hx;obtain⟨i,J,rfl⟩:=YC.1 hx;have T:=f.pl i (Z2.1 J).1;have z:=rC E T;exact⟨T,z.ne,z.tw,Ye (abw _ _) z.nl,λn hn=>z.nw n (Z2.1 hn).1⟩
 have:=Jr s fs s.bJ;have p1:=aF.cell? (i:=1) f.bW rfl;have:=aF.lt f.bW;have⟨ap,cp,C⟩:=f.bJ.sh;rw[Yk]at C;rw[C]at p1;have R:oF ((W.alloc (.map #[] 0)).alloc (.cells #[π c.bb,π c.bx,ς,.map (some W.heap.size),ς,ς] 193)) (W.heap.size+1) c rb s vp l bf bi ve ef fs aQ (ς) (.map (some W.heap.size)) (ς) (ς):=⟨V,f.aD I,N.aD I,F.aD I⟩;have L:=PC s.bJ vp R (R.bm.bJ) ag (by omega);rw[C]at L;have U:Hid (∀r u,Below ((W.alloc (.map #[] 0)).alloc (.cells #[π c.bb,π c.bx,ς,.map (some W.heap.size),ς,ς] 193)).heap.size ((W.alloc (.map #[] 0)).alloc (.cells #[π c.bb,π c.bx,ς,.map (some W.heap.size),ς,ς] 193)) r->lO r rb u (cJ s fs s.bJ)->
  aF r (W.heap.size+1) 193 [π c.bb,π c.bx,ς,.map (some W.heap.size),ς,ς]/\Calls prog 92 #[π (W.heap.size+1),σ g] (r.ψ (W.heap.size+1) 2 u) λe W'=>∃a,iy s fs (cJ s fs s.bJ) (dW s fs (cJ s fs s.bJ) gU g) a/\e=.returned (ι (a.1:Int))/\mV W' W.heap.size (W.heap.size+1) W.heap.size c rb s vp l bf bi ve ef fs aQ (cJ s fs s.bJ) u a.2/\μ W W'):=λr u o O=>by
  refine⟨V.aD o,?_⟩;have ai:=I.tr o;refine(Tr (t:=gU) g k G m P (Xa (l' _) ax (R.aD o) O (mS.aD o) ai.size ak) d Y (by omega) E (by omega) (by decide) (by decide)).mono ?_;rintro e w'⟨a,b,q2,D,w⟩;exact⟨a,b,q2,D,(ai.setCell (p:=η (W.heap.size+1) 2) (l' _) u).trans w⟩
 have X:=zX c.bb c.nm c.bt c.pb vp s.first W f.bW;clear R V mS I f N F P d Y ag;go_in;obtain⟨rfl,-⟩|⟨rfl,Q⟩:=Q
 case' inr=>rw[<-Q]at X;clear Q
 all_goals go_wp2_with (first|(go_at_call 90;refine κ X λw1 ae=>?_;rw[ae])|(go_at_call 91;refine L.mono ?_;clear L;rintro e r⟨u,rfl,O,o⟩;have⟨au,cu,al⟩:=O.sh;subst al;have⟨K,cf⟩:=U r _ o O;have:=K.cell? (i:=2) rfl;have:=K.frozen 2;clear O o K U)|(go_at_call 92;refine cf.mono ?_;rintro e w3⟨a,b,rfl,D,w⟩;have⟨vo,vv,qo,A,S,z,hv⟩:=D;have:=S.fm.row.cell? (i:=5) rfl;have⟨av,cv,am⟩:=fp S.je;subst am;have H:=aC hv))
 ·rename_i h;go_ret2
  have d:a.1≠0:=λq=>by rw[q]at h;exact absurd h (by decide)
  exact⟨w,.inr (.inr ⟨j,v,a,b,.inl ⟨d,rfl⟩⟩)⟩
 ·rename_i h _ _ B;go_ret2
  have d:a.1=0:=by rw[Zi]at h;omega
  have:A.length=a.2.cL.length:=by rw[<-H.u,Yk]
  exact⟨w,.inr (.inr ⟨j,v,a,b,.inr (.inl ⟨d,by omega,rfl⟩)⟩)⟩
 ·rename_i h B;go_ret2
  have d:a.1=0:=by rw[Zi]at h;omega
  have:A.length=a.2.cL.length:=by rw[<-H.u,Yk]
  have M:=S;exact⟨w,.inr (.inr ⟨j,v,a,b,.inr (.inr ⟨d,by omega,_,A,rfl,M.je,M.qd,H⟩)⟩)⟩
 ·rename_i h;go_ret2
  have d:a.1≠0:=λq=>by rw[q]at h;exact absurd h (by decide)
  exact⟨w,.inr (.inr ⟨j,v,a,b,.inl ⟨d,rfl⟩⟩)⟩
 ·rename_i h _ _ B;go_ret2
  have d:a.1=0:=by rw[Zi]at h;omega
  have:A.length=a.2.cL.length:=by rw[<-H.u,Yk]
  exact⟨w,.inr (.inr ⟨j,v,a,b,.inr (.inl ⟨d,by omega,rfl⟩)⟩)⟩
 rename_i h B;go_ret2
 have d:a.1=0:=by rw[Zi]at h;omega
 have:A.length=a.2.cL.length:=by rw[<-H.u,Yk]
 have M:=S;exact⟨w,.inr (.inr ⟨j,v,a,b,.inr (.inr ⟨d,by omega,_,A,rfl,M.je,M.qd,H⟩)⟩)⟩
end
def gK(s:St)(a:aj):aj:=if a=[] then s.first else a
section
variable {l:dr}{aQ:Int}
def OJ(d:BM W c rb s vp l)(h:s.first=[]):
 Calls prog 65 #[π c.bb,π c.bx,σ ([]:aj)] W λe W'=>za s fs [] W e W':=by
 have a:=zX c.bb c.nm c.bt c.pb vp s.first W d.bW;rw[h]at a;go_in;go_wp2_with (go_at_call 90;refine κ a λi f=>?_;rw[f])
 go_ret2
 exact⟨X5 _ _,.inl ⟨rfl,rfl⟩⟩
def O9(a g:aj)(d:(a=g/\a≠[])\/(a=[]/\g=s.first))(j:BM W c rb s vp l)(h:g≠[])(m:2000<g.length):
 Calls prog 65 #[π c.bb,π c.bx,σ a] W λe W'=>za s fs g W e W':=by
 have:g.isEmpty=false:=by rw[<-E3,ae0];exact h
 have f:=aC (zX c.bb c.nm c.bt c.pb vp s.first W j.bW);clear j;go_in;obtain⟨rfl,-⟩|⟨rfl,d⟩:=d
 case' inr=>rw[<-d]at f;clear d
 all_goals go_wp2_with (go_at_call 90;refine f.mono ?_;clear f;rintro e n⟨rfl,i⟩;rw[i];clear i)
 all_goals go_ret2
 all_goals exact⟨X5 _ _,.inr (.inl ⟨h,m,rfl⟩)⟩
def Qg(a:aj)(k:Nat)(x:gK s a≠[]->(gK s a).length<=2000->∃j m,xj s fs (cJ s fs s.bJ) j m/\((dW s fs (cJ s fs s.bJ) gU (gK s a)).1=0->j (dW s fs (cJ s fs s.bJ) gU (gK s a)).2))(o:BM W c rb s vp l)(p:PW W c.bx bf bi ve ef fs aQ)(v:dq W)(r:Ok s k):
 Calls prog 65 #[π c.bb,π c.bx,σ a] W λe W'=>za s fs (gK s a) W e W':=by
 have n:(a=gK s a/\a≠[])\/(a=[]/\gK s a=s.first):=by
  unfold gK;by_cases h:a=[]
  ·exact .inr ⟨h,Yd h⟩
  exact .inl ⟨(Yb h).symm,h⟩
 by_cases d:gK s a=[]
 ·obtain⟨i,f⟩|⟨i,f⟩:=n
  ·exact absurd (i.trans d) f
  rw[d,i];exact OJ o (f.symm.trans d)
 by_cases u:2000<(gK s a).length
 ·exact O9 a _ n o d u
 have⟨j,m,i,f⟩:=x d (by omega);exact SM a _ k n j m i f o p v r d (by omega)
end
def j_(a:eh):fv:=a.map (·.1)
theorem ye(k:aj)(v:Nat):∀(fl:eh) (y:aj),y∈j_ (da fl k v)->y=k\/y∈j_ fl
 |[],y,h=>by simp only[da,j_,YE,Z9,YD,ZC,k8]at h;exact .inl h
 |(f,d)::a,y,h=>by
  simp only[da]at h;split at h
  ·rename_i e;simp only[j_,YE,YD]at h⊢;obtain h|h:=h
   ·first|exact .inr (.inl h)|exact .inl h
   exact .inr (.inr h)
  simp only[j_,YE,YD]at h⊢;obtain h|h:=h
  ·exact .inr (.inl h)
  obtain q|q:=ye k v a y h
  ·exact .inl q
  exact .inr (.inr q)
theorem Ie(k:aj)(v:Nat):∀fl:eh,fl.length<=(da fl k v).length
 |[]=>Yh _
 |(d,f)::a=>by
  simp only[da];split
  ·exact X0 _
  have:=Ie k v a;simp only[Ya];omega
theorem GO(k:aj)(v:Nat):∀fl:eh,k∉j_ fl->da fl k v=fl++[(k,v)]
 |[],_=>rfl
 |(f,d)::a,h=>by
  simp only[j_,YE,YD,not_or]at h;simp only[da];split
  ·rename_i q;exact absurd (by first|exact q.symm|exact q|exact(Zj.1 q).symm|exact Zj.1 q) h.1
  rw[GO k v a h.2];rfl
theorem Ac(k:aj)(v:Nat):∀fl:eh,(j_ fl).Nodup->(j_ (da fl k v)).Nodup
 |[],_=>by simp[da,j_]
 |(d,j)::a,h=>by
  simp only[j_,YE,sT]at h;simp only[da];split
  ·rename_i q;simp only[j_,YE,sT];first|exact h|(have i:d =k:=(by first|exact q|exact q.symm|exact Zj.1 q);rw[<-i];exact h)
  rename_i q;simp only[j_,YE,sT];refine⟨λf=>?_,Ac k v a h.2⟩;obtain e|e:=ye k v a d f
  ·exact q (by first|exact e|exact e.symm|exact Zj.2 e)
  exact h.1 e
theorem BH(k:aj)(v:Nat)(d:Nat->Prop)(f:d v):∀fl:eh,(∀x∈fl,d x.2)->∀x∈da fl k v,d x.2
 |[],_,x,a=>by simp only[da,YD,ZC,k8]at a;rw[a];exact f
 |(n,m)::i,h,x,a=>by
  simp only[da]at a;split at a
  ·obtain q|q:=YD.1 a
   ·rw[q];exact f
   exact h x (Yp _ q)
  obtain q|q:=YD.1 a
  ·rw[q];exact h _ (Yq ..)
  exact BH k v d f i (λy j=>h y (Yp _ j)) x q
def OO(k:aj)(d:Nat->Prop)(b:eh)(h:∀x∈b,d x.2)(f:k∈j_ b):d (bP b k):=by
 have⟨x,i,e⟩:=YC.1 f;unfold bP;cases a:b.find? λx=>x.1==k with
 |none=>have:=ZW.1 a x i;exact absurd (Zj.2 e) this
 |some z=>exact h z (YV a)
theorem xl:∀(xs U:fv),xs.Nodup->(∀x∈xs,x∈U)->xs.length<=U.length
 |[],_,_,_=>Yh _
 |x::i,U,h,d=>by rw[sT]at h;have f:=d x (Yq ..);have j:=xl i (U.erase x) h.2 (λy a=>(acf (λ(q:y=x)=>h.1 (q▸a))).2 (d y (Yp _ a)));rw[aeD f]at j;have:=ae5 f;rw[Ya];omega
def oZ:List (cI×Nat)->Nat
 |[]=>0
 |x::a=>(x.1.aH.length-x.2+1)+oZ a
def xT:oZ (ei++ek)=oZ ei+oZ ek:=by
 induction ei with
 |nil=>simp[oZ]
 |cons x f d=>rw[Y3,oZ,oZ,d];omega
structure vW(s:St)(fs:fy)(us:List (Nat×fv))(U:fv)(C:Nat):Prop where
 aH:∀name,∀y∈(eM s fs us name).1.aH,y∈U
 len:∀name,(eM s fs us name).1.aH.length<=C
 cl:C<=4294967296
 ul:U.length<=4294967296
 wl:∀y∈U,y.length<=1073741824
structure nH(U:fv)(C:Nat)(t:cT):Prop where
 key:∀x∈j_ t.bM,x∈U
 nd:(j_ t.bM).Nodup
 fl:∀x∈t.bM,x.2=1\/x.2=2
 op:∀x∈t.opn,x.1.name∈U/\x.2<=x.1.aH.length/\x.1.aH.length<=C/\∀y∈x.1.aH,y∈U
 on:t.opn.length<=t.bM.length
def tP(U:fv)(C:Nat)(t:cT):Nat:=(U.length-t.bM.length)*(C+2)+oZ t.opn
def wJ:(eM s fs us j).1.name=j:=by
 unfold eM;split
 ·split<;>rfl
 rfl
section
variable {t:cT}
def nH.le(h:nH U C t):t.bM.length<=U.length:=by have:=xl _ U h.nd h.key;unfold j_ at this;rwa [Yk]at this
def AN(m:vW s fs us U C)(h:nH U C t)(b:aj)(p:b∈U)(a:(dW s fs us t b).1=0):
 nH U C (dW s fs us t b).2/\tP U C (dW s fs us t b).2<=tP U C t:=by
 unfold dW at a⊢;by_cases f:bP t.bM b=2
 ·rw[Yd f]at a⊢;exact⟨h,X0 _⟩
 rw[Yb f]at a⊢;by_cases j:bP t.bM b=1
 ·rw[Yd j]at a;cases a
 rw[Yb j]at a⊢;by_cases o:(eM s fs us b).2=false
 ·rw[Yd o]at a;cases a
 rw[Yb o]at a⊢;have z:b∉j_ t.bM:=λq=>by
  obtain e|e:=OO b (λv=>v=1\/v=2) t.bM h.fl q
  ·exact j e
  exact f e
 have e:=GO b 1 t.bM z;have n:nH U C {t with bM:=da t.bM b 1,opn:=t.opn++[((eM s fs us b).1,0)]}:=by
  refine⟨λx i=>?_,Ac _ _ _ h.nd,BH b 1 (λv=>v=1\/v=2) (.inl rfl) _ h.fl,λx i=>?_,?_⟩
  ·obtain q|q:=ye b 1 t.bM x i
   ·rw[q];exact p
   exact h.key x q
  ·obtain q|q:=Yv.1 i
   ·exact h.op x q
   rw[Yc]at q;rw[q];exact⟨by rw[wJ];exact p,Yh _,m.len b,m.aH b⟩
  have:=h.on;simp only[e,X4,Ya,Yr];omega
 refine⟨n,?_⟩;have y:=n.le;simp only[e,X4,Ya,Yr]at y;unfold tP;simp only[e,X4,Ya,Yr,xT,oZ];have:=m.len b;obtain⟨d,r⟩:∃d,U.length-t.bM.length=d+1:=⟨U.length-t.bM.length-1,by omega⟩;have u:U.length-(t.bM.length+(0+1))=d:=by omega
 rw[r,u,l5];omega
def JJ(j:vW s fs us U C):xj s fs us (nH U C) (tP U C) where
 step t x h hl h0:=by
  obtain⟨d,a⟩:=ZG.1 hl;have i:=h.op x (by rw[a];exact YQ _ (Yc.2 rfl));have o:t.opn.dropLast=d:=by rw[a,Z6]
  unfold gd at h0⊢;rw[hl]at h0⊢;simp only at h0⊢;by_cases n:x.2=x.1.aH.length
  ·rw[Yd n]at h0⊢;unfold nA;rw[hl];simp only[o];have z:=Ie x.1.name 2 t.bM;have p:=h.on;rw[a,X4]at p;refine⟨⟨λy f=>?_,Ac _ _ _ h.nd,BH x.1.name 2 (λv=>v=1\/v=2) (.inr rfl) _ h.fl,λy f=>h.op y (by rw[a];exact YK _ f),?_⟩,?_⟩
   ·rcases ye x.1.name 2 t.bM y f with q|q
    ·rw[q];exact i.1
    exact h.key y q
   ·simp only;omega
   unfold tP;rw[a,xT];simp only[oZ];have:=Zs (C+2) (Nat.sub_le_sub_left z U.length);omega
  rw[Yb n]at h0⊢;rw[o]at h0⊢;have m:x.2<x.1.aH.length:=by omega
  have f:x.1.aH.getD x.2 []∈U:=by rw[Yf,X9 m];exact i.2.2.2 _ (Ym m)
  have r:nH U C {t with opn:=d++[(x.1,x.2+1)]}:=by
   refine⟨h.key,h.nd,h.fl,λy f=>?_,?_⟩
   ·rcases Yv.1 f with q|q
    ·exact h.op y (by rw[a];exact YK _ q)
    rw[Yc]at q;rw[q];exact⟨i.1,m,i.2.2⟩
   have:=h.on;rw[a]at this;simp only[X4,Ya,Yr]at this⊢;exact this
  obtain⟨u,D⟩:=AN j r _ f h0;refine⟨u,Nat.lt_of_le_of_lt D ?_⟩;unfold tP;rw[a,xT,xT];simp only[oZ];omega
 lk t x h hl:=by obtain⟨d,a⟩:=ZG.1 hl;have i:=h.op x (by rw[a];exact YQ _ (Yc.2 rfl));exact⟨i.2.1,Ye i.2.2.1 j.cl,λy f=>j.wl y (i.2.2.2 y f)⟩
 sz t h:=⟨Ye h.le j.ul,Ye h.on (Ye h.le j.ul)⟩
def KS:nH U C gU:=⟨λx a=>(by cases a),Z',λx a=>(by cases a),λx a=>(by cases a),X0 _⟩
def T6(d:vW s fs us U C)(f:j∈U):∃a m,xj s fs us a m/\((dW s fs us gU j).1=0->a (dW s fs us gU j).2):=⟨nH U C,tP U C,JJ d,λh=>(AN d KS j f h).1⟩
end
structure qu(P:St->Prop):Prop where
 assign:∀s l,P s->P (iF s l).2
 uE:∀s op l,P s->P (gH s op l).2
 kf:∀s l,P s->P (gJ s l).2.2
 tR:∀s a b,P s->P {s with inc:=a,opn:=b}
section
def Pu(a:qu P)(f:∀s t,P s->P (dH s t).2.2)(h:P s)(w:aj)(d:Nat):P (iJ dH fs s w d).2.2:=by
 unfold iJ;split
 ·exact h
 split
 ·exact h
 split
 ·exact h
 exact a.tR _ _ _ (f _ _ (a.tR s _ _ h))
theorem ER(f:qu P)(i:∀s t,P s->P (dH s t).2.2)(a:Nat):∀(d:fv) (s:St),P s->P (lj dH fs a d s).2.2
 |[],s,h=>h
 |w::d,s,h=>by
  have j:=Pu (fs:=fs) f i h w a;unfold lj;split
  ·exact j
  exact ER f i a d _ j
def Pj(a:qu P)(d:∀s t,P s->P (dH s t).2.2)(h:P s)(b:ib)(l:Ln):P (eW dH fs s b l).2.2.2:=by
 unfold eW;split
 ·exact a.uE s b l h
 split
 ·exact a.kf s l h
 split
 ·unfold lH;split
  ·exact h
  exact ER a d _ _ _ h
 exact a.assign s l h
theorem Ah(a:qu P)(d:∀s t,P s->P (dH s t).2.2):∀(xs:List (Ln×Nat)) (s:St) (op:ib),P s->P (iQ dH fs xs s op).2.2
 |[],s,op,h=>h
 |x::xs,s,op,h=>by
  have f:=Pj (fs:=fs) a d h op x.1;unfold iQ;split
  ·exact h
  split
  ·exact f
  exact Ah a d xs _ _ f
theorem Fe(a:qu P):∀d s f,P s->P (jE fs d s f).2.2
 |0,s,_,h=>Ah a (λ_ _ h=>h) _ s none h
 |d+1,s,_,h=>Ah a (Fe a d) _ s none h
def Aq(a:qu P)(h:P iO)(d:aj):P (cX fs d).2.2:=by
 unfold cX;split
 ·exact h
 exact Fe a 3 iO _ h
end
structure mR(s:St):Prop where
 tg:∀n,s.of n≠[]->∃r∈s.aG,n∈r.tg
theorem IG(a:Nat)(n:aj):∀(d:fv) (s:St),(d.foldl (d' a) s).of n≠[]->s.of n≠[]\/n∈d
 |[],s,h=> .inl h
 |t::f,s,h=>by
  rw[YP]at h;obtain q|q:=IG a n f (d' a s t) h
  ·by_cases e:n=t
   ·exact .inr (by rw[e];exact Yq ..)
   refine .inl ?_;have i:(d' a s t).of n=s.of n:=by show od s.of t (s.of t++[a]) n=s.of n;unfold od;first|exact Yb e|exact Yb (λq=>e q.symm)
   rwa [i]at q
  exact .inr (Yp _ q)
def mR.add{s:St}(h:mR s)(a i:fv):mR (bA s a i).2:=by
 have c:∀n m,(∃d∈s.aG,n∈d.tg)->∃d∈s.aG++[m],n∈d.tg:=λn m ⟨d,o,p⟩=>⟨d,YK _ o,p⟩;unfold bA;split
 ·exact⟨h.tg⟩
 split
 ·exact⟨λn j=>c n _ (h.tg n j)⟩
 have b:∀f:aj,mR (a.foldl (d' s.aG.length) {s with aG:=s.aG++[⟨a,bR i [],[]⟩],first:=f}):=λf=>by
  refine⟨λn j=>?_⟩;rw[(qh s.aG.length a {s with aG:=s.aG++[⟨a,bR i [],[]⟩],first:=f}).2.1];obtain q|q:=IG _ n a _ j
  ·exact c n _ (h.tg n q)
  exact⟨⟨a,bR i [],[]⟩,YQ _ (Yc.2 rfl),q⟩
 unfold mD;simp only;split
 ·exact b _
 exact b s.first
def SS:qu mR where
 assign s l h:=by unfold iF;split<;>exact⟨h.tg⟩
 uE s op l h:=by
  unfold gH;split
  ·exact h
  split
  ·exact h
  rename_i d _ i m;split
  ·exact h
  refine⟨λn u=>?_⟩;have⟨q,p,j⟩:=h.tg n u;have⟨o,f⟩:=adU p;by_cases e:d=o
  ·subst e;rw[m]at f;cases f;have r:=(Yl.1 m).1;exact⟨{i with cs:=i.cs++[(l.right,l.eK)]},Z5 (i:=d) (by simp[r]),j⟩
  exact⟨q,Z5 (i:=o) (by rw[E0 e];exact f),j⟩
 kf s l h:=by
  unfold gJ;split
  ·exact h
  split
  ·exact h
  split
  ·exact h
  split
  ·exact h
  exact mR.add (s:={s with n:=s.n+1}) ⟨h.tg⟩ _ _
 tR s a b h:=⟨h.tg⟩
def Jk(b:fy)(a:aj):mR (cX b a).2.2:=Aq SS ⟨λ_ d=>absurd rfl d⟩ a
def sJ(h:dc D=false):eb D j=D:=by
 unfold dc Lib.contains at h;rw[ZB]at h;have:=Lib.index_ge D [37];have a:Lib.index D [37]= -1:=by omega
 unfold eb Lib.replaceAll Lib.replace;split
 ·rfl
 have e:Lib.replaceNum D [37] (-1)=0:=by
  unfold Lib.replaceNum;rw[Yd (.inl (by decide)),Lib.count_miss a]
 rw[e];rfl
theorem BN{b:aj}:∀{us:List (Nat×fv)} {a:Nat} {d:aj},kl s fs b us=some (a,d)->∃x∈us,x.1=a/\x.2.all (gI fs (jO s) d)=true
 |[],_,_,h=>by cases h
 |x::j,a,d,h=>by
  rw[kl]at h;split at h
  ·rename_i q;cases h;exact⟨x,Yq ..,rfl,q.2⟩
  have⟨y,i,f⟩:=BN h;exact⟨y,Yp _ i,f⟩
def qM(s:St)(a:fy)(g:aj):fv:=g::((s.aG.map (·.nd)).flatten++((s.aG.map (·.tg)).flatten++a.map (·.aL)))
theorem A3(f:Rl->fv)(B:Nat):∀xs:List Rl,(∀a∈xs,(f a).length<=B)->(xs.map f).flatten.length<=xs.length*B
 |[],_=>by simp
 |x::a,h=>by have:=A3 f B a (λi d=>h i (Yp _ d));have:=h x (Yq ..);rw[YE,adr,X4,Ya,l5];omega
section
variable {g:aj}
def rq(a:i<s.aG.length):bT s i∈s.aG:=by
 have e:bT s i=s.aG[i]:=by unfold bT;simp[a]
 rw[e];exact Ym a
def Ct(a:i<s.aG.length)(d:j∈(bT s i).nd):j∈qM s fs g:=Yp _ (YK _ (Ft.2 ⟨_,YC.2 ⟨_,rq a,rfl⟩,d⟩))
def F3(f:∀d∈dn,d<s.aG.length)(a:j∈fX s dn):j∈qM s fs g:=by
 unfold fX at a;split at a
 ·rename_i h
  match dn,h,f,a with
  |[d],_,f,a=>exact Ct (f d (Yq ..)) a
 rcases(oK _ _).2 j a with q|q
 ·have⟨z,h,i⟩:=Ft.1 q;obtain⟨d,y,rfl⟩:=YC.1 h;exact Ct (f d y) i
 cases q
def PV(o:mR s)(h:gI fs (jO s) j D=true):eb D j∈qM s fs g:=by
 unfold gI at h;rw[afw]at h;obtain h|h:=h
 ·cases a:Pl.look fs (eb D j) with
  |none=>rw[a]at h;cases h
  |some f=>
   by_cases q:eb D j∈fs.map (·.aL)
   ·exact Yp _ (YQ _ (YQ _ q))
   rw[yo.2 q]at a;cases a
 unfold jO at h;have d:=q9 h;have⟨i,m,p⟩:=o.tg (eb D j) (λe=>by rw[e]at d;cases d);exact Yp _ (YQ _ (YK _ (Ft.2 ⟨_,YC.2 ⟨i,m,rfl⟩,p⟩)))
def NN(d:Ok s k)(b:aj)(f:∀a∈s.of b,a<s.aG.length):(fX s (s.of b)).length<=256000000:=by
 have m:=d.ol b;have i:=d.tl;have n:=d.jo;have j:=yG (λa=>(bT s a).nd) 2000 (s.of b) (λa h=>(rC d (f a h)).nl);unfold fX;split
 ·rename_i e
  match s.of b,e,f with
  |[a],_,f=>have:=(rC d (f a (Yq ..))).nl;simp only[WU];omega
 have:=(oK (((s.of b).map λa=>(bT s a).nd).flatten) []).1;rw[Yr]at this;omega
def UN(p:Ok s k)(N:mR s)(v:∀name,∀a∈s.of name,a<s.aG.length)(M:∀a∈s.bJ,a<s.aG.length)(V:fs.length<=4000000000)(R:∀f∈fs,f.aL.length<=1073741824)(Q:g.length<=1073741824):
 vW s fs (cJ s fs s.bJ) (qM s fs g) 256002000:=by
 have H:∀name a j,kl s fs name (cJ s fs s.bJ)=some (a,j)->a<s.aG.length/\∀n∈(bT s a).nd,eb n j∈qM s fs g:=λname a j h=>by
  have⟨x,i,d,m⟩:=BN h;unfold cJ at i;obtain⟨O,E,rfl⟩:=YC.1 i;simp only at d m;subst d;have J:=M O (Z2.1 E).1;refine⟨J,λn I=>?_⟩;by_cases G:dc n=true
  ·exact PV N (uu.1 m n (Z2.2 ⟨I,G⟩))
  rw[sJ (by simpa using G)];exact Ct J I
 refine⟨λname y o=>?_,λname=>?_,by decide,?_,λy o=>?_⟩
 ·have u:y∈(qG s name).aH->y∈qM s fs g:=λh=>F3 (v name) h;unfold eM at o;split at o
  ·split at o
   ·rename_i a j e;have⟨i,d⟩:=H name a j e;rcases(oK _ _).2 y o with q|q
    ·obtain q|q:=Yv.1 q
     ·obtain⟨n,m,rfl⟩:=YC.1 q;exact d n m
     exact F3 (v name) q
    cases q
   exact u o
  exact u o
 ·have:=NN p name (v name);have u:(qG s name).aH.length<=256002000:=by show(fX s (s.of name)).length<=_;omega
  unfold eM;split
  ·split
   ·rename_i a j e;have i:=(rC p (H name a j e).1).nl;have d:=(oK (((bT s a).nd.map λn=>eb n j)++fX s (s.of name)) []).1;rw[X4,Yk,Yr]at d;show(bR (((bT s a).nd.map λn=>eb n j)++fX s (s.of name)) []).length<=_;omega
   exact u
  exact u
 ·have i:=A3 (·.nd) 2000 s.aG (λr D=>(p.rs r D).nl);have d:=A3 (·.tg) 2000 s.aG (λr D=>(p.rs r D).tl);have m:=p.rl;have E:=p.jo;unfold qM;rw[Ya,X4,X4,Yk];omega
 obtain q|q:=YD.1 o
 ·rw[q];exact Q
 obtain q|q:=Yv.1 q
 ·have⟨z,i,d⟩:=Ft.1 q;obtain⟨r,m,rfl⟩:=YC.1 i;have:=(p.rs r m).nw y d;omega
 obtain q|q:=Yv.1 q
 ·have⟨z,i,d⟩:=Ft.1 q;obtain⟨r,m,rfl⟩:=YC.1 i;have:=(p.rs r m).tw y d;omega
 obtain⟨f,i,rfl⟩:=YC.1 q;exact R f i
end
def nT:fv->fv->fv
 |[],_=>[]
 |x::d,a=>if x∈a then nT d a else x::nT d (a++[x])
theorem xh:∀(l a:fv),bR l a=a++nT l a
 |[],a=>by unfold bR nT;rw[ZR]
 |x::d,a=>by
  unfold bR nT;split
  ·exact xh d a
  rw[xh d (a++[x]),YB];rfl
theorem y_(f:aj->aj):∀(l a c:fv),(∀x∈a,f x∈c)->nT ((nT l a).map f) c=nT (l.map f) c
 |[],_,_,_=>rfl
 |x::j,a,c,h=>by
  rw[YE];by_cases m:x∈a
  ·rw[nT,Yd m,y_ f j a c h,nT,Yd (h x m)]
  rw[nT,Yb m,YE,nT,nT];by_cases i:f x∈c
  ·rw[Yd i,Yd i];exact y_ f j (a++[x]) c λy d=>by
    obtain d|d:=Yv.1 d
    ·exact h y d
    rw[Yc.1 d];exact i
  rw[Yb i,Yb i];congr 1;exact y_ f j (a++[x]) (c++[f x]) λy d=>by
   obtain d|d:=Yv.1 d
   ·exact YK _ (h y d)
   rw[Yc.1 d];exact YQ _ (Yc.2 rfl)
def IE(f:aj->aj)(l c:fv):bR ((bR l []).map f) c=bR (l.map f) c:=by rw[xh l [],Y2,xh,xh,y_ f l [] c λx a=>(by cases a)]
def yv(l c:fv):bR (bR l []) c=bR l c:=by have:=IE id l c;rwa [af1,af1]at this
theorem yC:∀(l m a:fv),bR (l++m) a=bR m (bR l a)
 |[],_,_=>rfl
 |x::d,m,a=>by
  rw[Y3,bR,bR];split
  ·exact yC d m a
  exact yC d m _
theorem wS:∀(l a:fv) (x:aj),x∈bR l a↔x∈a\/x∈l
 |[],a,x=>by simp[bR]
 |y::d,a,x=>by
  unfold bR;split
  ·rename_i f;rw[wS d a x,YD];constructor
   ·rintro(h|h)
    ·exact .inl h
    exact .inr (.inr h)
   rintro(h|rfl|h)
   ·exact .inl h
   ·exact .inl f
   exact .inr h
  rw[wS d _ x,Yv,Yc,YD,or_assoc]
theorem J5:∀(l a:fv),(∀x∈l,x∈a)->bR l a=a
 |[],_,_=>rfl|x::d,a,h=>by rw[bR,Yd (h x (Yq ..)),J5 d a λy f=>h y (Yp _ f)]
theorem x9:∀(l a:fv),l.foldl dj a=bR l a
 |[],_=>rfl
 |x::d,a=>by
  rw[YP,bR];unfold dj eo;by_cases h:x∈a
  ·rw[Yd (Y6 h),Yd h];exact x9 d a
  rw[Yb (by rw[Zy];exact h),Yb h];exact x9 d _
def fa(b:Bk)(x:Nr):cI:=⟨x.name,x.ph,x.aH,x.stem,match x.gW with|none=>[]|some a=>(b.aG.getD a db).cs⟩
def x_{p:Ru->Bool}(rs:List Ru):((List.range rs.length).find? λa=>p (rs.getD a db))=none/\rs.find? p=none\/∃a m,((List.range rs.length).find? λa=>p (rs.getD a db))=some a/\rs.find? p=some m/\a<rs.length/\rs.getD a db=m:=by
 cases i:(List.range rs.length).find? λa=>p (rs.getD a db) with
 |none=>refine .inl ⟨rfl,?_⟩;rw[ZW]at i⊢;intro m x;obtain⟨a,f,rfl⟩:=ZD x;have:=i a (ZX.2 f);rwa [Yf,X9 f]at this
 |some a=>
  have⟨o,j,D,n,y⟩:=List.find?_eq_some_iff_append.1 i;have f:=ZX.1 (YV i);have e:rs.getD a db=rs[a]:=by rw[Yf,X9 f];rfl
  refine .inr ⟨a,rs[a],rfl,?_,f,e⟩;rw[aa4];rw[e]at o;refine⟨o,a,f,rfl,λd E=>?_⟩;have G:j.length=a:=by
   have h:(List.range rs.length)[j.length]?=some a:=by rw[n,YH ax];simp
   have⟨_,u⟩:=Yl.1 h;simpa using u
  have z:d∈j:=by
   have h:(List.range rs.length)[d]?=j[d]?:=by rw[n,Zh (by omega)]
   have r:(List.range rs.length)[d]?=some d:=by rw[X9 (by rw[List.length_range];omega)];simp
   rw[r]at h;exact Z5 h.symm
  have v:=y d z;rwa [Yf,X9 (by omega)]at v
theorem AA:∀(n d:aj),cW n d=if n.contains 37=true then Mk.bo 37 n++(d++after 37 n) else n
 |[],_=>rfl
 |c::a,d=>by
  unfold cW;by_cases f:c=37
  ·subst f;rw[Yd rfl,Yd (by simp)];simp[Mk.bo,after]
  rw[Yb f,AA a d];have h:(c==37)=false:=by simpa using f
  have i:((37:UInt8)==c)=false:=by simpa using λe=>f e.symm
  have j:(c::a).contains 37=a.contains 37:=by rw[Zk,i,l8]
  have p:Mk.bo 37 (c::a)=c::Mk.bo 37 a:=by unfold Mk.bo;rw[ZF,h];rfl
  have m:after 37 (c::a)=after 37 a:=by unfold after;rw[ZT,h];rfl
  rw[j,p,m];split<;>rfl
theorem Bu:∀(n:aj),n.contains 37=true->n=Mk.bo 37 n++37::after 37 n
 |[],h=>by cases h
 |c::a,h=>by
  by_cases d:c=37
  ·subst d;simp[Mk.bo,after]
  have f:(c==37)=false:=by simpa using d
  have i:((37:UInt8)==c)=false:=by simpa using λe=>d e.symm
  rw[Zk,i,l8]at h;have m:Mk.bo 37 (c::a)=c::Mk.bo 37 a:=by unfold Mk.bo;rw[ZF,f];rfl
  have j:after 37 (c::a)=after 37 a:=by unfold after;rw[ZT,f];rfl
  rw[m,j,Y3,<-Bu a h]
def Mo(h:D.contains 37=false):Lib.replaceK [37] j k D=D:=by
 cases k with
 |zero=>rfl|succ k=>rw[Lib.replaceK,(wK 37 D).2 h];rfl
def Tu(h:j=D++37::S):j.take D.length=D/\j.drop (D.length+1)=S:=by subst h;refine⟨by simp,?_⟩;rw[<-z6];simp
def yj(h:ep D<=1):eb D j=cW D j:=by
 rw[AA];cases f:D.contains 37 with
 |false=>rw[Yb (by decide)];exact sJ (by rw[wX];unfold ep;rw[acP.2 (by simpa using f)];rfl)
 |true=>
  rw[Yd rfl];have a:=Bu D f;have i:=(wK 37 D).1 f;have u:(after 37 D).contains 37=false:=by
   unfold ep at h;have m:List.count 37 D=List.count 37 (Mk.bo 37 D)+List.count 37 (37::after 37 D):=by rw[<-aey,<-a]
   rw[afR]at m;have:List.count 37 (after 37 D)=0:=by omega
   simpa using acP.1 this
  unfold eb Lib.replaceAll Lib.replace;split
  ·rename_i v;have z :[37]=j:=by simpa using v
   rw[<-z];exact a
  have d:∃k,Lib.replaceNum D [37] (-1)=k+1:=by
   unfold Lib.replaceNum;rw[Yd (.inl (by decide))];unfold Lib.count;rw[Lib.countFrom,i];have o:(((Mk.bo 37 D).length:Int)== -1)=false:=by rw[Yi];omega
   rw[o];exact⟨_,by simp only[YN,Z4];rw[af0]⟩
  have⟨k,d⟩:=d;rw[d,Lib.replaceK_hit _ _ _ _ _ i];have⟨p,y⟩:=Tu a;have r:List.drop (List.length (Mk.bo 37 D)+List.length [(37:UInt8)]) D=after 37 D:=y;rw[p];refine Eq.trans (Yg (λx=>_++Lib.replaceK [37] j k x) r) ?_;rw[Mo u,YB]
def Jq{name:aj}(h:0<ep j):((iS name j).2=true↔gB j name≠[])/\((iS name j).2=true->(iS name j).1=gB j name):=by
 have p:j.contains 37=true:=by have:=aem.1 h;simpa using this
 have H:j.length=(Mk.bo 37 j).length+1+(after 37 j).length:=by
  conv=>lhs;rw[Bu j p]
  rw[X4,Ya];omega
 unfold iS gB;rw[AA,Yd p];generalize Mk.bo 37 j=A at*;generalize after 37 j=E at*;by_cases o:name.length<=A.length+E.length
 ·rw[Yd o,Yd (show name.length<j.length by omega)];exact⟨⟨λe=>(by cases e),λe=>absurd rfl e⟩,λe=>(by cases e)⟩
 rw[Yb o,Yb (show ¬name.length<j.length by omega)];have D:name.length-j.length+1=name.length-A.length-E.length:=by omega
 rw[D];have G:((name.drop A.length).take (name.length-A.length-E.length))≠[]:=by intro e;have:=Yg List.length e;rw[YL,Zu]at this;simp only[Yr]at this;omega
 have b:(A++(((name.drop A.length).take (name.length-A.length-E.length))++E)=name)↔(Lib.hasPrefix name A&&Lib.hasSuffix (Lib.trimPrefix name A) E)=true:=by
  rw[Zn];constructor
  ·intro e;have a:A<+:name:=⟨_,e⟩;have n:Lib.hasPrefix name A=true:=aci.2 a;refine⟨n,?_⟩;unfold Lib.trimPrefix;rw[Yd n];refine ach.2 ⟨(name.drop A.length).take (name.length-A.length-E.length),?_⟩;have:=Yg (List.drop A.length) e;rwa [abS ax,ub,Y2]at this
  rintro⟨a,f⟩;unfold Lib.trimPrefix at f;rw[Yd a]at f;have⟨u,d⟩:=ach.1 f;have⟨v,i⟩:=aci.1 a;have r:name.drop A.length=v:=by rw[<-i];simp
  rw[r]at d⊢;have y:name.length-A.length-E.length=u.length:=by
   have:name.length=A.length+v.length:=by rw[<-i,X4]
   have:v.length=u.length+E.length:=by rw[<-d,X4]
   omega
  rw[y,<-d,abd ax,YR,d,i]
 have x:(Lib.hasPrefix name A&&Lib.hasSuffix (Lib.trimPrefix name A) E)=true->Lib.trimSuffix (Lib.trimPrefix name A) E=(name.drop A.length).take (name.length-A.length-E.length):=λe=>by rw[Zn]at e;unfold Lib.trimSuffix;rw[Yd e.2];unfold Lib.trimPrefix;rw[Yd e.1,Zu]
 constructor
 ·constructor
  ·intro e;rw[Yd (b.2 e)];exact G
  intro e;by_cases m:A++(((name.drop A.length).take (name.length-A.length-E.length))++E)=name
  ·exact b.1 m
  rw[Yb m]at e;exact absurd rfl e
 intro e;rw[Yd (b.2 e)];exact x e
def mK(t:aj):Nat->List (fv)->gb
 |_,[]=>[]
 |k,g::a=>mO t k g++mK t (k+1) a
def oY:Nat->List (fv)->gb
 |_,[]=>[]
 |k,g::a=>(if iu g=true then [k] else [])++oY (k+1) a
theorem Ff(t:aj)(g:fv):∀(T:List (fv)) (k:Nat),mK t k (T++[g])=mK t k T++mO t (k+T.length) g
 |[],k=>by simp[mK]
 |x::T,k=>by rw[Y3,mK,mK,Ff t g T (k+1),YB,Ya,Nat.add_right_comm,ml]
theorem FQ(g:fv):∀(T:List (fv)) (k:Nat),oY k (T++[g])=oY k T++if iu g=true then [k+T.length] else []
 |[],k=>by simp[oY]
 |x::T,k=>by rw[Y3,oY,oY,FQ g T (k+1),YB,Ya,Nat.add_right_comm,ml]
theorem Dt(t:aj):∀(n:Nat) (T:List (fv)),T.length=n->om T t=mK t 0 T/\tG T=oY 0 T
 |0,T,h=>by have:=Y4.1 h;subst this;exact⟨rfl,rfl⟩
 |n+1,T,h=>by
  have f:T≠[]:=λe=>by rw[e]at h;cases h
  have e:=ZA f;have a:T.dropLast.length=n:=by rw[afM];omega
  have⟨i,d⟩:=Dt t n T.dropLast a;rw[<-e,Gb,GW,Ff,FQ,i,d,YO];exact⟨rfl,rfl⟩
variable {u:Ru}
section
variable {rs:List Ru}{t:aj}
def RN:dO (e5::d7)=(if e5.ph=true then [] else [ju e5])++dO d7:=by unfold dO;rw[x6];cases e5.ph<;>rfl
def yB:ft (e5::d7)=(if e5.ph=true then [] else [e5.tg])++ft d7:=by unfold ft;rw[x6];cases e5.ph<;>rfl
def TZ:dO (d7++d8)=dO d7++dO d8:=by unfold dO;rw[r7,Yy]
def Dn(h:s.aG=dO rs)(e:rs=d7++u::d8)(d:u.ph=false):bT s (dO d7).length=ju u:=by unfold bT;rw[h,e,TZ,RN,d,Yf,YH ax];simp
theorem Gu(k:Nat)(a:gb):∀(l:fv),g_ s ((l.map λ_=>k)++a)=if l=[] then g_ s a else if 0<(bT s k).cs.length then(bT s k).cs else g_ s a
 |[]=>rfl
 |x::l=>by
  rw[YE,Y3,g_,Gu k a l,Yb (List.cons_ne_nil _ _)];split
  ·rfl
  split<;>rfl
def ui:a.filter (·==t)=[]↔eo t a=false:=by
 rw[List.filter_eq_nil_iff];unfold eo;rw[ZB];constructor
 ·intro h e;exact h t e (by simp)
 intro h x d e;have:x=t:=by simpa using e
 exact h (this▸d)
def zu(rs:List Ru):Prop:=∀a∈rs,a.cD=fu a.tg/\fu a.tg=iu a.tg/\(fu a.tg=true->∃x,a.tg=[x])/\a.tg≠[]/\(∀x∈a.tg,x≠[])/\(a.ph=true->a.cs=[])/\∀n∈a.nd,ep n<=1
theorem I0(r:s.aG=dO rs)(o:zu rs):∀(f i:List Ru),rs=i++f->g_ s (mK t (dO i).length (ft f))=((f.find? (fD t)).map (·.cs)).getD []
 |[],_,_=>rfl
 |a::f,i,e=>by
  have v:rs=(i++[a])++f:=by rw[YB];exact e
  have d:=I0 r o f (i++[a]) v;obtain⟨n,p,-⟩:=o a (by rw[e];exact YQ _ (Yq ..));rw[yB,Zt];rw[ry]at d;cases h:a.ph with
  |true=>
   rw[h]at d;simp only[Z8,ZR,Y2]at d⊢;rw[d];have:fD t a=false:=by unfold fD;rw[h];simp
   rw[this]
  |false=>
   rw[h]at d;simp only[YN,Z4,X4,Yx]at d⊢;rw[H3,mK];unfold mO;cases u:iu a.tg with
   |true=>
    have:fD t a=false:=by unfold fD;rw[n,p,u];simp
    rw[this,Yd rfl];exact d
   |false=>
    rw[Yb (by decide),Gu,d,Dn r e h];unfold fD;rw[n,p,u,h];simp only[X1,Z7];cases m:eo t a.tg with
    |false=>rw[Yd (ui.2 m)];rfl
    |true=>
     rw[Yb (λq=>by rw[ui.1 q]at m;cases m)];by_cases j:0<a.cs.length
     ·rw[Yd (show 0<(ju a).cs.length from j),Y6 j];rfl
     rw[Yb (show ¬0<(ju a).cs.length from j),Y9 j];rfl
theorem Hx(k:Nat)(d:fv)(h:(bT s k).nd=bR d [])(f:fv):∀(l a:fv),bR (((l.map λ_=>k).map λi=>(bT s i).nd).flatten++f) a=if l=[] then bR f a else bR f (bR d a)
 |[],a=>rfl
 |x::l,a=>by
  rw[Yb (List.cons_ne_nil _ _),YE,YE,adr,YB,yC,Hx k d h f l,h,yv];split
  ·rfl
  rw[J5 d (bR d a) λx j=>(wS d a x).2 (.inr j)]
theorem Gi(o:s.aG=dO rs)(r:zu rs):∀(h j:List Ru) (a:fv),rs=j++h->bR ((mK t (dO j).length (ft h)).map λv=>(bT s v).nd).flatten a=h.foldl (λa d=>if dz t d=true then d.nd.foldl dj a else a) a
 |[],_,_,_=>rfl
 |d::h,j,a,e=>by
  have x:rs=(j++[d])++h:=by rw[YB];exact e
  have f:=λa=>Gi o r h (j++[d]) a x;obtain⟨n,u,-⟩:=r d (by rw[e];exact YQ _ (Yq ..));rw[yB,YP];rw[ry]at f;cases i:d.ph with
  |true=>
   rw[i]at f;simp only[Z8,ZR,Y2]at f⊢;rw[f];have:dz t d=false:=by unfold dz;rw[i];simp
   rw[this];rfl
  |false=>
   rw[i]at f;simp only[YN,Z4,X4,Yx]at f;rw[Yb (by decide),H3,mK];unfold mO;cases p:iu d.tg with
   |true=>
    have:dz t d=false:=by unfold dz;rw[n,u,p];simp
    rw[this,Yd rfl];exact f a
   |false=>
    rw[Yb (by decide),Yy,ad1,Hx _ d.nd (by rw[Dn o e i];rfl),f,f];unfold dz;rw[n,u,p,i];simp only[X1,X'];cases m:eo t d.tg with
    |false=>rw[Yd (ui.2 m)];rfl
    |true=>rw[Yb (λq=>by rw[ui.1 q]at m;cases m),Yd rfl,x9]
theorem Ij(m:zu rs):∀(f h:List Ru),rs=h++f->decide (0<(mK t (dO h).length (ft f)).length)=f.any (dz t)
 |[],_,_=>rfl
 |a::f,h,e=>by
  have p:rs=(h++[a])++f:=by rw[YB];exact e
  have d:=Ij m f (h++[a]) p;obtain⟨n,o,-⟩:=m a (by rw[e];exact YQ _ (Yq ..));rw[yB,l9];rw[ry]at d;cases i:a.ph with
  |true=>
   rw[i]at d;simp only[Z8,ZR,Y2]at d⊢;rw[d];have:dz t a=false:=by unfold dz;rw[i];simp
   rw[this,l8]
  |false=>
   rw[i]at d;simp only[YN,Z4,X4,Yx]at d;rw[Yb (by decide),H3,mK,X4,<-d];unfold mO dz;rw[n,o,i];cases r:iu a.tg with
   |true=>simp
   |false=>
    rw[Yb (by decide),Yk];simp only[X1,X'];cases j:eo t a.tg with
    |false=>rw[ui.2 j];simp
    |true=>
     have:0<(a.tg.filter (·==t)).length:=Y5.2 λq=>by rw[ui.1 q]at j;cases j
     rw[ae8];exact Y6 (by omega)
end
section
def dL.ok(h:dL s b):zu b.aG:=h.ru
def dL.pz(h:dL s b)(t:aj):s.of t=mK t (dO []).length (ft b.aG):=by rw[h.of,(Dt t _ _ rfl).1];rfl
def dL.WM(h:dL s b):s.bJ=oY (dO []).length (ft b.aG):=by rw[h.bJ,(Dt [] _ _ rfl).2];rfl
def dL.tg(h:dL s b)(t:aj):jO s t=kK b t:=by unfold jO;rw[h.pz];exact Ij h.ok b.aG [] rfl
def dL.j8(h:dL s b)(t:aj):decide (t∈s.ph)=fW b t:=by
 unfold fW;have f:t∈s.ph↔(b.aG.any λa=>eo t a.nd&&a.ph)=true:=by
  rw[h.ph,Z1];constructor
  ·rintro⟨a,f,d,j⟩;exact⟨a,f,by unfold eo;rw[d,Y6 j];rfl⟩
  rintro⟨a,f,d⟩;unfold eo at d;rw[Zn,Zy]at d;exact⟨a,f,d.2,d.1⟩
 cases i:(b.aG.any λa=>eo t a.nd&&a.ph) with
 |true=>exact Y6 (f.2 i)|false=>exact Y9 λe=>by rw[f.1 e]at i;cases i
def dL.aI(h:dL s b)(t:aj):g_ s (s.of t)=((b.aG.find? (fD t)).map (·.cs)).getD []:=by rw[h.pz];exact I0 h.rl h.ok b.aG [] rfl
def dL.aH(h:dL s b)(t:aj)(a:fv):bR (fX s (s.of t)) a=mG b t a:=by
 have d:=Gi (t:=t) h.rl h.ok b.aG [] a rfl;rw[<-h.pz]at d
 unfold fX;split
 ·rename_i o
  match r:s.of t,o with
  |[i],_=>rw[r]at d;simp only[YE,Z9,adr,List.flatten_nil,ZR]at d;exact d
 rw[yv];exact d
def dL.VE(h:dL s b)(t:aj):fX s (s.of t)=mG b t []:=by
 rw[<-h.aH];have j:∀a∈s.of t,a<s.aG.length:=λa d=>by
  rw[h.of]at d;unfold om at d;have⟨v,r,f⟩:=x'.1 d;unfold mO at f;split at f
  ·cases f
  obtain⟨x,-,rfl⟩:=YC.1 f;rw[h.rl,<-yK];exact (ZX.1 r)
 unfold fX;split
 ·rename_i o
  match u:s.of t,o with
  |[a],_=>
   rw[u]at j;have d:=j a (Yc.2 rfl);have e:bT s a=s.aG[a]:=by unfold bT;rw[Yf,X9 d];rfl
   have i:=Ym d;rw[<-e,h.rl]at i;unfold dO at i;obtain⟨m,-,p⟩:=YC.1 i;show(bT s a).nd=bR (bT s a).nd [];rw[<-p];exact(yv m.nd []).symm
 rw[yv]
end
section
variable {name:aj}
def Vr:cJ s fs (dn++dp)=cJ s fs dn++cJ s fs dp:=by unfold cJ;rw[r7,Yy]
def Fm(h:dL s b)(a:ep D<=1):gI fs (jO s) j D=kF b fs (cW D j):=by unfold gI kF;rw[yj a,h.tg]
def Uq(h:dL s b)(H:u∈b.aG)(v:u.cD=true)(I:bT s k=ju u):(tH s fs k=true/\(iS name ((bT s k).tg.headD [])).2=true/\(tW s k).all (gI fs (jO s) (iS name ((bT s k).tg.headD [])).1)=true)↔gV b fs name u=true:=by
 have⟨o,R,M,V,S,Q,j⟩:=h.ru u H;rw[v]at o;have⟨x,z⟩:=M o.symm;have G:0<ep x:=by have:=o.symm;rw[z]at this;unfold fu at this;simpa using this
 have E:u.tg.headD []=x:=by rw[z];rfl
 have⟨y,D⟩:=Jq (name:=name) G;unfold tH zw tW gV;rw[I];show _/\(iS name (u.tg.headD [])).2=true/\((bR u.nd []).filter dc).all (gI fs (jO s) (iS name (u.tg.headD [])).1)=true↔_;rw[E,v,Z7];have N:∀n,n∈bR u.nd []↔n∈u.nd:=λn=>by rw[wS];simp
 have J:(ju u).nd=bR u.nd []:=rfl;have O:(ju u).cs=u.cs:=rfl;rw[J,O];simp only[Zn,Zy,uu,Z2,N];constructor
 ·rintro⟨⟨r,p⟩,i,m⟩;refine⟨r,y.1 i,λn a=>?_⟩;rw[<-D i];cases d:dc n with
  |true=>rw[<-Fm h (j n a)];exact m n ⟨a,d⟩
  |false=>have f:=p n ⟨a,by rw[d];rfl⟩;unfold gI at f;rw[sJ d,h.tg]at f;unfold kF;rw[<-yj (j n a),sJ d];exact f
 rintro⟨r,p,i⟩;have m:=y.2 p;refine⟨⟨r,λn a=>?_⟩,m,λn a=>?_⟩
 ·have d:dc n=false:=by simpa using a.2
  have f:=i n a.1;unfold kF at f;rw[<-yj (j n a.1),sJ d]at f;unfold gI;rw[sJ d,h.tg];exact f
 rw[Fm h (j n a.1),D m];exact i n a.1
theorem J6(h:dL s b):∀(i d:List Ru),b.aG=d++i->(kl s fs name (cJ s fs (oY (dO d).length (ft i)))=none/\i.find? (gV b fs name)=none)\/∃M a,kl s fs name (cJ s fs (oY (dO d).length (ft i)))=some (M,gB (a.tg.headD []) name)/\i.find? (gV b fs name)=some a/\bT s M=ju a
 |[],_,_=> .inl ⟨rfl,rfl⟩
 |a::i,d,e=>by
  have S:b.aG=(d++[a])++i:=by rw[YB];exact e
  have f:=J6 h i (d++[a]) S;have E:a∈b.aG:=by rw[e];exact YQ _ (Yq ..)
  obtain⟨u,I,R,Z,c,Q,V⟩:=h.ru a E;rw[yB,Zt];rw[ry]at f;cases n:a.ph with
  |true=>
   have v:gV b fs name a=false:=by unfold gV;rw[Q n];simp
   rw[n]at f;rw[v];simp only[Z8,ZR,Y2]at f⊢;exact f
  |false=>
   rw[n]at f;simp only[YN,Z4,X4,Yx]at f;rw[Yb (by decide),H3,oY,Vr];cases G:iu a.tg with
   |false=>
    have v:gV b fs name a=false:=by unfold gV;rw[u,I,G];simp
    rw[v];exact f
   |true=>
    have H:a.cD=true:=by rw[u,I,G]
    have r:=Dn h.rl e n;have z:=Uq (name:=name) (fs:=fs) h E H r;rw[Yd rfl];have m:∃x,a.tg=[x]/\0<ep x:=by have o:fu a.tg=true:=u.symm.trans H;obtain⟨x,m⟩:=R o;refine⟨x,m,?_⟩;rw[m]at o;unfold fu at o;simpa using o
    obtain⟨x,m,O⟩:=m;by_cases p:tH s fs (dO d).length=true
    ·have y:cJ s fs [(dO d).length]=[((dO d).length,tW s (dO d).length)]:=by unfold cJ;rw[x6,Yd p];rfl
     rw[y,H3,kl];by_cases j:(iS name ((bT s (dO d).length).tg.headD [])).2=true/\(tW s (dO d).length).all (gI fs (jO s) (iS name ((bT s (dO d).length).tg.headD [])).1)=true
     ·rw[Yd j,z.1 ⟨p,j⟩];refine .inr ⟨_,a,?_,rfl,r⟩;have D:a.tg.headD []=x:=by rw[m];rfl
      have N:=(Jq (name:=name) O).2;rw[r]at j;have J:(ju a).tg.headD []=x:=D;rw[r,J,D];rw[J]at j;rw[N j.1]
     rw[Yb j];have:gV b fs name a=false:=ab_.2 λq=>j (z.2 q).2;rw[this];exact f
    have y:cJ s fs [(dO d).length]=[]:=by unfold cJ;rw[x6,Yb p];rfl
    rw[y,Y2];have:gV b fs name a=false:=ab_.2 λq=>p (z.2 q).1;rw[this];exact f
def Sk(h:dL s b)(name:aj):eM s fs (cJ s fs s.bJ) name=(fa b (de b fs name).1,(de b fs name).2):=by
 have H:=h.aI name;have u:=h.j8 name;have y:pY s fs name=(kK b name||(fW b name||(Pl.look fs name).isSome)):=by unfold pY;rw[h.tg,u,adP]
 have G:gh b.aG name (-1)=(List.range b.aG.length).find? λj=>fD name (b.aG.getD j db):=by unfold gh;congr 1
 have N:∀d,fD name d=true->0<d.cs.length:=λd m=>by unfold fD at m;simp only[Zn,Zy]at m;exact m.2.2.2
 have x:qG s name=fa b ⟨name,mG b name [],gh b.aG name (-1),[],fW b name⟩:=by
  unfold qG fa;rw[h.VE,u,H,G];obtain⟨f,a⟩|⟨j,d,f,a,-,i⟩:=x_ (p:=fD name) b.aG
  ·rw[f,a];rfl
  rw[f,a];simp only[T',acq];rw[i]
 have z:((g_ s (s.of name)).length=0/\decide (name∈s.ph)=false)↔(gh b.aG name (-1)=none/\fW b name=false):=by
  rw[u,H,G];obtain⟨f,a⟩|⟨j,d,f,a,-,i⟩:=x_ (p:=fD name) b.aG
  ·rw[f,a];simp
  rw[f,a];have:=N d (afx a);simp only[T',acq];constructor
  ·rintro⟨q,-⟩;omega
  rintro⟨q,-⟩;cases q
 unfold eM de;by_cases r:gh b.aG name (-1)=none/\fW b name=false
 ·rw[Yd (z.2 r),Yd r];have D:=J6 (fs:=fs) (name:=name) h b.aG [] rfl;rw[<-h.WM]at D;have E:ki b fs name=(List.range b.aG.length).find? λj=>gV b fs name (b.aG.getD j db):=rfl;obtain⟨v,o⟩|⟨j,d,v,o,S⟩:=D
  ·obtain⟨f,a⟩|⟨J,I,f,a,-,i⟩:=x_ (p:=gV b fs name) b.aG
   ·rw[v,E,f];simp only;rw[x,y,r.1]
   rw[o]at a;cases a
  obtain⟨f,a⟩|⟨J,I,f,a,-,i⟩:=x_ (p:=gV b fs name) b.aG
  ·rw[o]at a;cases a
  rw[o]at a;cases a;rw[v,E,f];simp only;rw[i];have m:=YV o;obtain⟨-,-,-,-,-,-,M⟩:=h.ru d m;unfold zE fa;simp only;rw[S,u,i];have O:((ju d).nd.map λn=>eb n (gB (d.tg.headD []) name))=(ju d).nd.map λn=>cW n (gB (d.tg.headD []) name):=E1 λn R=>yj (M n (by have:n∈bR d.nd []:=R;rw[wS]at this;exact this.resolve_left (λq=>by cases q)));rw[O,yC,h.aH];have Q:(ju d).nd=bR d.nd []:=rfl;rw[Q,IE (λn=>cW n (gB (d.tg.headD []) name)),x9];rfl
 rw[Yb (λq=>r (z.1 q)),Yb r,x,y]
end
theorem wy(h:∀t n q,dY t n=some q->d6 t n=some q):∀(l:fv) (t:Wk) (q:Nat×Wk),gx dY l t=some q->gx d6 l t=some q
 |[],t,q,e=>e
 |n::l,t,q,e=>by
  unfold gx at e⊢;cases j:dG t.aT n with
  |none=>
   rw[j]at e;simp only at e⊢;cases f:dY t n with
   |none=>rw[f]at e;cases e
   |some m=>
    rw[f]at e;rw[h t n m f];simp only at e⊢;split at e
    ·rename_i a;rw[Yd a];exact e
    rename_i a;rw[Yb a];exact wy h l _ q e
  |some m=>
   rw[j]at e;simp only at e⊢;split at e
   ·rename_i a;rw[Yd a];exact wy h l _ q e
   rename_i a;rw[Yb a];exact e
theorem Am(b:Bk)(c:fy):∀(f:Nat) (t:Wk) (n:aj) (q:Nat×Wk),eH b c f t n=some q->eH b c (f+1) t n=some q
 |0,_,_,_,e=>by cases e
 |f+1,t,n,q,e=>by
  rw[eH]at e⊢;split at e
  ·rename_i d;rw[Yd d];exact e
  rename_i d;rw[Yb d];cases a:gx (eH b c f) (de b c n).1.aH (fq t (de b c n).1) with
  |none=>rw[a]at e;cases e
  |some h=>rw[a]at e;rw[wy (Am b c f) _ _ _ a];exact e
def Pr(b:Bk)(c:fy)(h:L<=wk):∀(t:Wk) (n:aj) (q:Nat×Wk),eH b c L t n=some q->eH b c wk t n=some q:=by
 induction h with
 |refl=>exact λ_ _ _ e=>e
 |step _ a=>exact λt n q e=>Am b c _ t n q (a t n q e)
theorem De(k:aj)(v:Nat):∀(fl:eh) (n:aj),bP (da fl k v) n=if k=n then v else bP fl n
 |[],n=>by
  unfold bP da;rw[adT];by_cases h:k=n
  ·simp[h]
  simp[h]
 |x::i,n=>by
  have f:=De k v i n;unfold bP at f⊢;rw[da];cases d:x.1==k with
  |true=>
   simp only[Z8];have e:x.1=k:=by simpa using d
   rw[Zt,Zt,e];by_cases h:k=n
   ·simp[h]
   have:(k==n)=false:=by simpa using h
   simp[h,this]
  |false=>
   simp only[YN,Z4];rw[Zt,Zt (a:=x)];cases h:x.1==n with
   |true=>
    have j:¬k=n:=λe=>by rw[Yi]at d;exact d (by rw[e];simpa using h)
    simp[j]
   |false=>exact f
structure kh(b:Bk)(t:Wk)(w:cT):Prop where
 fl:∀n,bP w.bM n=match dG t.aT n with|none=>0|some p=>if(cA t p).2=true then 2 else 1
 nd:(t.aT.map (·.1.name)).Nodup
 lt:∀i∈t.aY,i<t.aT.length
 mu:t.aT.length=t.aY.length+w.opn.length
 ov:w.cL=(t.aY.map λi=>fa b (cA t i).1).take 101
def WO(b:Bk):kh b jR gU:=⟨λn=>rfl,Z',λd a=>(by cases a),rfl,rfl⟩
def OP(x:Nr×Bool):dG (en++[x]) j=match dG en j with|some a=>some a|none=>if x.1.name=j then some en.length else none:=by
 unfold dG;rw[ZS];cases List.findIdx? (λx=>x.1.name==j) en with
 |some a=>rfl
 |none=>
  rw[adt,List.findIdx?_singleton];by_cases h:x.1.name=j
  ·simp[h]
  simp[h]
def wQ(h:dG en j=some i):∃f:i<en.length,(en[i]).1.name=j:=by unfold dG at h;rw[YM]at h;obtain⟨d,a,-⟩:=h;exact⟨d,by simpa using a⟩
def PE(h:dG en j=none):j∉en.map (·.1.name):=by unfold dG at h;rw[Zg]at h;intro e;have⟨x,d,a⟩:=YC.1 e;have:=h x d;rw[Yi]at this;exact this a
def vh(h:i<V.aT.length):cA V i=V.aT[i]:=by unfold cA;rw[Yf,X9 h];rfl
section
variable {t:Wk}{w:cT}
def kh.opn(h:kh b t w)(a:ei.length=w.opn.length):kh b t {w with opn:=ei}:=⟨h.fl,h.nd,h.lt,by rw[h.mu,<-a],h.ov⟩
def kh.push(h:kh b t w)(m:dG t.aT el.name=none)(y:cI×Nat):kh b (fq t el) ⟨da w.bM el.name 1,w.opn++[y],w.cL⟩:=by
 refine⟨λn=>?_,?_,λi j=>?_,?_,?_⟩
 ·show bP (da w.bM el.name 1) n=match dG (t.aT++[(el,false)]) n with|none=>0|some f=>if(cA (fq t el) f).2=true then 2 else 1
  rw[De,OP,h.fl];cases o:dG t.aT n with
  |some f=>
   have⟨q,u⟩:=wQ o;have d:¬el.name=n:=λe=>by rw[e,o]at m;cases m
   rw[Yb d];have:cA (fq t el) f=cA t f:=by unfold cA fq;exact wO _ _ _ q
   simp only[this]
  |none=>
   by_cases d:el.name=n
   ·rw[Yd d,Yd d];have:cA (fq t el) t.aT.length=(el,false):=by unfold cA fq;exact um _ _
    simp only[this];rfl
   rw[Yb d,Yb d]
 ·show((t.aT++[(el,false)]).map (·.1.name)).Nodup;rw[Yy,ZK];refine⟨h.nd,by simp,λa p c r=>?_⟩;have:c=el.name:=by simpa using r
  rw[this];exact λe=>PE m (e▸p)
 ·show i<(t.aT++[(el,false)]).length;have:=h.lt i j;rw[X4];omega
 ·show(t.aT++[(el,false)]).length=t.aY.length+(w.opn++[y]).length;rw[X4,X4,h.mu];simp only[Yx];omega
 show w.cL=(t.aY.map λi=>fa b (cA (fq t el) i).1).take 101;rw[h.ov];congr 1;refine E1 λi j=>?_;have:cA (fq t el) i=cA t i:=by unfold cA fq;exact wO _ _ _ (h.lt i j)
 rw[this]
def kh.done(h:kh b t w){l:Nat}(d:k<t.aT.length)(m:w.opn=ei++[(d9,l)])(M:d9=fa b (cA t k).1)(f:(cA t k).1.name=d9.name):kh b (i_ t k) (nA w)/\(nA w).opn=ei:=by
 have H:w.opn.getLast?=some (d9,l):=by rw[m,acj];rfl
 have o:w.opn.dropLast=ei:=by rw[m,Z6]
 have r:(i_ t k).aT.map (·.1.name)=t.aT.map (·.1.name):=by
  show(t.aT.set k ((cA t k).1,true)).map (·.1.name)=_;rw[afp,vh d];refine aco (by simp) λa V S=>?_;rw[aeX];split
  ·rename_i e;subst e;simp
  rfl
 have R:∀a,(cA (i_ t k) a).1=(cA t a).1:=λa=>by
  unfold cA i_;simp only;rw[Yf,Yf,aez];by_cases e:k=a
  ·subst e;rw[Yd rfl,Yd d,X9 d];show(cA t k).1=_;rw[vh d];rfl
  rw[Yb e]
 have p:∀a,(cA (i_ t k) a).2=if a=k then true else(cA t a).2:=λa=>by
  unfold cA i_;simp only;rw[Yf,Yf,aez];by_cases e:k=a
  ·subst e;rw[Yd rfl,Yd d,Yd rfl];rfl
  rw[Yb e,Yb (λq=>e q.symm)]
 have u:∀n,dG (i_ t k).aT n=dG t.aT n:=λn=>by
  have:∀l:List (Nr×Bool),dG l n=(l.map (·.1.name)).findIdx? (·==n):=λl=>by unfold dG;rw[adv];rfl
  rw[this,this,r]
 have I:dG t.aT d9.name=some k:=by
  unfold dG;rw[YM];rw[vh d]at f;refine⟨d,by simpa using f,λj O=>?_⟩;have y:j<t.aT.length:=by omega
  intro e;have D:(t.aT[j]).1.name=d9.name:=by simpa using e
  refine(aby.1 h.nd j k (by simpa using y) (by simpa using d) O) ?_;rw[YT,YT];exact D.trans f.symm
 unfold nA;rw[H];simp only;refine⟨⟨λn=>?_,by rw[r];exact h.nd,λa J=>?_,?_,?_⟩,o⟩
 ·show bP (da w.bM d9.name 2) n=_;rw[De,u,h.fl];by_cases i:d9.name=n
  ·rw[Yd i,<-i,I];simp only;rw[p,Yd rfl];rfl
  rw[Yb i];cases G:dG t.aT n with
  |none=>rfl
  |some E=>
   simp only;have Q:E≠k:=λe=>by have⟨q,v⟩:=wQ G;subst e;rw[vh d]at f;exact i (f.symm.trans v)
   rw[p,Yb Q]
 ·have z:a∈t.aY++[k]:=J;show a<(t.aT.set k _).length;rw[Y7];obtain q|q:=Yv.1 z
  ·exact h.lt a q
  rw[Yc.1 q];exact d
 ·show(t.aT.set k _).length=(t.aY++[k]).length+w.opn.dropLast.length;rw[Y7,h.mu,o,m,X4,X4];simp only[Yx];omega
 show(if w.cL.length<=100 then w.cL++[d9] else w.cL)=((t.aY++[k]).map λa=>fa b (cA (i_ t k) a).1).take 101;have N:((t.aY++[k]).map λa=>fa b (cA (i_ t k) a).1)=(t.aY.map λa=>fa b (cA t a).1)++[d9]:=by rw[Yy];simp only[R];rw[M];rfl
 rw[N,h.ov];generalize t.aY.map (λa=>fa b (cA t a).1)=L;rw[YL];by_cases Z:L.length<=100
 ·rw[Yd (by omega),YF (by omega),YF (by rw[X4];simp only[Yx];omega)]
 rw[Yb (by omega),abd (by omega)]
def QS(b:Bk)(a:fy)(name:aj):(de b a name).1.name=name:=by
 unfold de;split
 ·split<;>rfl
 rfl
def Pc(h:kh b t w)(d:bP w.bM j≠2)(f:bP w.bM j≠1):dG t.aT j=none:=by
 have:=h.fl j;cases a:dG t.aT j with
 |none=>rfl
 |some i=>
  rw[a]at this;simp only at this;split at this
  ·exact absurd this d
  exact absurd this f
def Rp(h:kh b t w)(f:bP w.bM j=2):∃a,dG t.aT j=some a/\(cA t a).2=true:=by
 have:=h.fl j;cases d:dG t.aT j with
 |none=>rw[d,f]at this;cases this
 |some a=>
  rw[d,f]at this;simp only at this;refine⟨a,rfl,?_⟩;cases i:(cA t a).2 with
  |true=>rfl|false=>rw[i]at this;cases this
def QW(h:kh b t w)(f:bP w.bM j=1):∃a,dG t.aT j=some a/\(cA t a).2=false:=by
 have:=h.fl j;cases d:dG t.aT j with
 |none=>rw[d,f]at this;cases this
 |some a=>
  rw[d,f]at this;simp only at this;refine⟨a,rfl,?_⟩;cases i:(cA t a).2 with
  |false=>rfl|true=>rw[i]at this;cases this
end
def vV(b:Bk)(s:St)(d:fy)(n:Nat)(K:List (cI×Nat))(a:Nat×cT)(q:Nat×Wk):Prop:=(q.1≠0->a.1=q.1)/\(q.1=0->∃m c,m<=n/\ee s d (cJ s d s.bJ) m (0,c)=some a/\kh b q.2 c /\c.opn=K)
def kB(t:Wk)(q:Wk):Prop:=t.aT.length<=q.aT.length/\∀a,a<t.aT.length->(cA q a).1=(cA t a).1
def kB.refl(t:Wk):kB t t:=⟨X0 _,λ_ _=>rfl⟩
def kB.trans(u:kB V Z)(k:kB Z h):kB V h:=⟨Ye u.1 k.1,λd a=>(k.2 d (Yo a u.1)).trans (u.2 d a)⟩
def kB.push(t:Wk)(x:Nr):kB t (fq t x):=⟨by unfold fq;simp,λi a=>by
 have:cA (fq t x) i=cA t i:=by unfold cA fq;exact wO _ _ _ a
 rw[this]⟩
def kB.done(t:Wk)(k:Nat):kB t (i_ t k):=⟨by unfold i_;simp,λa d=>by
 unfold cA i_;simp only;rw[Yf,Yf,aez];by_cases e:k=a
 ·subst e;rw[Yd rfl,Yd d];rfl
 rw[Yb e]⟩
theorem qf(h:∀t n q,dY t n=some q->kB t q.2):∀(l:fv) (t:Wk) (q:Nat×Wk),gx dY l t=some q->kB t q.2
 |[],t,q,e=>by cases e;exact kB.refl _
 |n::l,t,q,e=>by
  unfold gx at e;cases d:dG t.aT n with
  |none=>
   rw[d]at e;simp only at e;cases a:dY t n with
   |none=>rw[a]at e;cases e
   |some f=>
    rw[a]at e;simp only at e;split at e
    ·cases e;exact h t n _ a
    exact(h t n _ a).trans (qf h l _ q e)
  |some f=>
   rw[d]at e;simp only at e;split at e
   ·exact qf h l _ q e
   cases e;exact kB.refl _
theorem rh(b:Bk)(c:fy):∀(f:Nat) (t:Wk) (n:aj) (q:Nat×Wk),eH b c f t n=some q->kB t q.2
 |0,_,_,_,e=>by cases e
 |f+1,t,n,q,e=>by
  rw[eH]at e;split at e
  ·cases e;exact kB.refl _
  cases a:gx (eH b c f) (de b c n).1.aH (fq t (de b c n).1) with
  |none=>rw[a]at e;cases e
  |some d=>rw[a]at e;cases e;exact((kB.push t _).trans (qf (rh b c f) _ _ _ a)).trans (kB.done _ _)
section
def Gn(h:ee s fs (cJ s fs s.bJ) L o=some y)(a:o.1≠0):y=o:=by
 cases L with
 |zero=>rw[ee,Yd (.inl a)]at h;cases h;rfl
 |succ L=>rw[ee,Yd (.inl a)]at h;cases h;rfl
def FL(h:ee s fs (cJ s fs s.bJ) L (0,ds)=some o)(d:ds.opn≠[]):∃m,L=m+1/\ee s fs (cJ s fs s.bJ) m (gd s fs (cJ s fs s.bJ) ds)=some o:=by
 have a:¬((0,ds):Nat×cT).1≠0/\¬((0,ds):Nat×cT).2.opn=[]:=⟨λe=>e rfl,d⟩;cases L with
 |zero=>rw[ee,Yb (λe=>e.elim a.1 a.2)]at h;cases h
 |succ L=>rw[ee,Yb (λe=>e.elim a.1 a.2)]at h;exact⟨L,rfl,h⟩
def vV.mono(h:vV b s fs wk ei o es)(d:wk<=L):vV b s fs L ei o es:=⟨h.1,λe=>by have⟨k,c,f,a⟩:=h.2 e;exact⟨k,c,Ye f d,a⟩⟩
def PL(Y:dL s b)(n:Nat):
 (∀(t:Wk) (w:cT) (x:cI) (K:List (cI×Nat)) (a:Nat) (f:Nat×cT),kh b t w->w.opn=K++[(x,a)]->a<=x.aH.length->ee s fs (cJ s fs s.bJ) n (0,w)=some f->∃q,gx (eH b fs n) (x.aH.drop a) t=some q/\vV b s fs n (K++[(x,x.aH.length)]) f q)/\
 (∀(t:Wk) (w:cT) (name:aj) (f:Nat×cT),kh b t w->dG t.aT name=none->ee s fs (cJ s fs s.bJ) n (dW s fs (cJ s fs s.bJ) w name)=some f->∃q,eH b fs (n+1) t name=some q/\vV b s fs n w.opn f q):=by
 induction n using Nat.strongRecOn with
 |ind n J=>
  have B:∀(t:Wk) (w:cT) (x:cI) (K:List (cI×Nat)) (a:Nat) (f:Nat×cT),kh b t w->w.opn=K++[(x,a)]->a<=x.aH.length->ee s fs (cJ s fs s.bJ) n (0,w)=some f->∃q,gx (eH b fs n) (x.aH.drop a) t=some q/\vV b s fs n (K++[(x,x.aH.length)]) f q:=λt w x K a f j v hi i=>by
   by_cases V:a=x.aH.length
   ·subst V;rw[ub];exact⟨(0,t),rfl,λe=>absurd rfl e,λ_=>⟨n,w,X0 _,i,j,v⟩⟩
   have l:a<x.aH.length:=by omega
   have H:w.opn≠[]:=by rw[v];simp
   obtain⟨m,rfl,d⟩:=FL i H;have N:w.opn.getLast?=some (x,a):=by rw[v,acj];rfl
   unfold gd at d;rw[N]at d;simp only at d;rw[Yb V,v,Z6]at d;have X:x.aH.getD a []=x.aH[a]:=by rw[Yf,X9 l];rfl
   rw[X]at d;rw[Yu l];have o:kh b t {w with opn:=K++[(x,a+1)]}:=j.opn (by rw[v,X4,X4];rfl);unfold gx;unfold dW at d;by_cases y:bP w.bM x.aH[a]=2
   ·rw[Yd y]at d;have⟨T,h,G⟩:=Rp j y;rw[h];simp only;rw[Yd G];have⟨q,u,r⟩:=(J m (by omega)).1 t _ x K (a+1) f o rfl (by omega) d;exact⟨q,wy (Am b fs m) _ _ _ u,r.mono (by omega)⟩
   rw[Yb y]at d;by_cases Q:bP w.bM x.aH[a]=1
   ·rw[Yd Q]at d;have⟨T,h,G⟩:=QW j Q;rw[h];simp only;rw[Yb (by rw[G];decide)];have:=Gn d (T9 _);exact⟨(7,t),rfl,λ_=>by rw[this],λe=>(by cases e)⟩
   have h:=Pc j y Q;rw[h];simp only;have af:ee s fs (cJ s fs s.bJ) m (dW s fs (cJ s fs s.bJ) {w with opn:=K++[(x,a+1)]} x.aH[a])=some f:=by unfold dW;rw[Yb y];exact d
   have⟨M,u,r,E⟩:=(J m (by omega)).2 t _ _ f o h af;rw[u];simp only;by_cases z:M.1=0
   ·rw[Yb (λe=>e z)];have⟨O,c,L,D,I,p⟩:=E z;have⟨q,W,F⟩:=(J O (by omega)).1 M.2 c x K (a+1) f I p (by omega) D;exact⟨q,wy (Pr b fs (by omega)) _ _ _ W,F.mono (by omega)⟩
   rw[Yd z];exact⟨M,rfl,r,λe=>absurd e z⟩
  refine⟨B,λt w name f j h i=>?_⟩;have A:=j.fl name;rw[h]at A;simp only at A;unfold dW at i;rw[Yb (by omega),Yb (by omega),Sk Y]at i;rw[eH];by_cases S:(de b fs name).2=false
  ·rw[Yd S]at i⊢;have:=Gn i (T9 _);exact⟨_,rfl,λ_=>by rw[this],λe=>(by cases e)⟩
  rw[Yb S]at i⊢;have Z:=QS b fs name;have U:dG t.aT (de b fs name).1.name=none:=by rw[Z];exact h
  have o:=j.push U (fa b (de b fs name).1,0);rw[Z]at o;have⟨q,u,r,E⟩:=B _ _ (fa b (de b fs name).1) w.opn 0 f o rfl (Yh _) i;have aa:gx (eH b fs n) (de b fs name).1.aH (fq t (de b fs name).1)=some q:=u;rw[aa];refine⟨_,rfl,r,λe=>?_⟩;have⟨m,c,L,D,I,p⟩:=E e;have H:c.opn≠[]:=by rw[p];simp
  obtain⟨O,rfl,d⟩:=FL D H;have N:c.opn.getLast?=some (fa b (de b fs name).1,(fa b (de b fs name).1).aH.length):=by rw[p,acj];rfl
  unfold gd at d;rw[N]at d;simp only at d;rw[Yd True.intro]at d;have k:=qf (rh b fs n) _ _ _ aa;have R:t.aT.length<(fq t (de b fs name).1).aT.length:=by unfold fq;simp
  have g:(cA q.2 t.aT.length).1=(de b fs name).1:=by rw[k.2 _ R];unfold cA fq;rw[um]
  have⟨P,C⟩:=I.done (Yo R k.1) p (by rw[g]) (by rw[g];rfl);exact⟨O,_,by omega,d,P,C⟩
def Sx(y:dL s b)(h:iy s fs (cJ s fs s.bJ) (dW s fs (cJ s fs s.bJ) gU j) o):∃f q,eH b fs f jR j=some q/\q.1=o.1/\(o.1=0->kh b q.2 o.2/\o.2.opn=[]):=by
 have⟨n,z⟩:=h;have⟨q,v,u,p⟩:=(PL y n).2 jR gU j o (WO b) rfl z;refine⟨n+1,q,v,?_,λe=>?_⟩
 ·by_cases d:q.1=0
  ·have⟨m,c,x,a,r,g⟩:=p d;have:o=(0,c):=by
    have i:c.opn=[]:=g;cases m with
    |zero=>rw[ee,Yd (.inr i)]at a;cases a;rfl
    |succ m=>rw[ee,Yd (.inr i)]at a;cases a;rfl
   rw[this,d]
  exact(u d).symm
 by_cases d:q.1=0
 ·have⟨m,c,x,a,r,g⟩:=p d;have:o=(0,c):=by
   have i:c.opn=[]:=g;cases m with
   |zero=>rw[ee,Yd (.inr i)]at a;cases a;rfl
   |succ m=>rw[ee,Yd (.inr i)]at a;cases a;rfl
  rw[this];exact⟨r,g⟩
 exact absurd ((u d).symm.trans e) d
end
def qJ(N:aj->Nv)(h:UInt8->jj):List (aj×Nat)->fv->(Nat×Nat)⊕fv->Prop
 |[],f,d=>d=.inr f
 |c::i,f,d=>∃a:Er,b_ N h [] 0 [] c.1 a/\(if a.er≠0 then d=.inl (a.er,c.2) else if Mk.cut a.bK=[] then qJ N h i f d else qJ N h i (f++[a.bK]) d)
def rY(N:aj->Nv):List cI->List (fv)->(Nat×Nat)⊕List (fv)->Prop
 |[],d,a=>a=.inr d
 |x::f,d,a=>∃S,qJ N x.sg x.aI [] S/\(match S with
  | .inl e=>a=.inl e
  | .inr l=>rY N f (d++[l]) a)
def tZ(x:cI):Sg:=⟨true,x.name,x.aH.headD [],[32].intercalate x.aH,x.stem⟩
def Ue:jQ (tZ d9)=d9.sg:=by funext c;unfold jQ tZ cI.sg ox;rw[Yb (show ¬true=false from Bool.noConfusion)];rfl
def WN(k:Nat)(f:fv)(h:fv):(Nat×Nat)⊕(Nat×fv)->(Nat×Nat)⊕fv->Prop
 | .inl e,.inl i=>e=i
 | .inr (d,l),.inr m=>∃a,m=h++a/\d =k+a.length/\(d <=500->l=f++a)|_,_=>False
variable {x:UInt8->jj}
theorem Bi:∀(v:List (aj×Nat)) (k:Nat) (n j:fv) (d:(Nat×Nat)⊕(Nat×fv)),j9 dl x v k n d->∃S,qJ dl x v j S/\WN k n j d S
 |[],k,n,j,d,h=>by have E:d=.inr (k,n):=h;subst E;exact⟨.inr j,rfl,[],by simp,rfl,λ_=>by simp⟩
 |c::y,k,n,j,d,h=>by
  have⟨a,r,f⟩:=h;by_cases o:a.er=0
  ·rw[Yb (λe=>e o)]at f;by_cases p:Mk.cut a.bK=[]
   ·rw[Yd p]at f;have⟨S,u,i⟩:=Bi y k n j d f;exact⟨S,⟨a,r,by rw[Yb (λe=>e o),Yd p];exact u⟩,i⟩
   rw[Yb p]at f;have⟨S,u,i⟩:=Bi y (k+1) _ (j++[a.bK]) d f;refine⟨S,⟨a,r,by rw[Yb (λe=>e o),Yb p];exact u⟩,?_⟩
   match d,S,i with
   | .inl e,.inl J,i=>exact i
   | .inr (M,l),.inr m,i=>have⟨D,H,I,z⟩:=i;refine⟨a.bK::D,by rw[H];simp,by rw[I,Ya];omega,λG=>?_⟩;rw[z G,Yd (by omega)];simp
  rw[Yd o]at f;subst f;exact⟨.inl (a.er,c.2),⟨a,r,by rw[Yd o]⟩,rfl⟩
def rR(x:cI)(a:fv):cj:=⟨x.name,x.ph,x.aH,x.stem,a⟩
def jk(a:List (fv)):Nat:=(a.map (·.length)).sum
def WH(d:List cI)(k:Nat)(i:List cj)(h:List (fv)):(Nat×Nat)⊕(Nat×List cj)->(Nat×Nat)⊕List (fv)->Prop
 | .inl e,.inl n=>e=n
 | .inr (f,j),.inr m=>∃a,m=h++a/\a.length=d.length/\f =k+jk a/\(f <=500->j=i++List.zipWith rR d a)|_,_=>False
theorem He:∀(p:List cI) (k:Nat) (n:List cj) (d:List (fv)) (a:(Nat×Nat)⊕(Nat×List cj)),jB dl p k n a->∃S,rY dl p d S/\WH p k n d a S
 |[],k,n,d,a,h=>by have D:a=.inr (k,n):=h;subst D;exact⟨.inr d,rfl,[],by simp,rfl,rfl,λ_=>by simp⟩
 |x::Q,k,n,d,a,h=>by
  have⟨G,Z,f⟩:=h;have⟨S,i,o⟩:=Bi x.aI k [] [] G Z
  match G,S,o,f,i with
  | .inl e,.inl r,o,f,i=>have M:e=r:=o;subst M;have E:a=.inl e:=f;subst E;exact⟨.inl e,⟨_,i,rfl⟩,rfl⟩
  | .inr (R,l),.inr u,o,f,i=>
   have⟨g,v,c,z⟩:=o;rw[Y2]at v;cases v;have⟨T,H,j⟩:=He Q R _ (d++[u]) a f;refine⟨T,⟨_,i,H⟩,?_⟩
   match a,T,j with
   | .inl e,.inl r,j=>exact j
   | .inr (k',ss),.inr m,j=>have⟨I,J,V,y,O⟩:=j;refine⟨u::I,by rw[J];simp,by rw[Ya,V,Ya],by rw[y,c];unfold jk;rw[YE,ri];omega,λb=>?_⟩;rw[O b,z (by omega)];simp[rR]
def Qr(h:dL s b):s.first=((b.aG.find? λa=> !a.cD&& !a.ph).map (·.tg.headD [])).getD []:=by
 rw[h.first];unfold sf ft;have:∀rs:List Ru,(∀a∈rs,a.cD=fu a.tg/\fu a.tg=iu a.tg)->((((rs.filter λa=> !a.ph).map (·.tg)).find? λg=> !iu g).getD []).headD []=((rs.find? λa=> !a.cD&& !a.ph).map (·.tg.headD [])).getD []:=λrs=>by
  induction rs with
  |nil=>intro _;rfl
  |cons a rs n=>
   intro d;have⟨i,j⟩:=d a (Yq ..);have f:=n λq m=>d q (Yp _ m);rw[x6,Zt];cases o:a.ph with
   |true=>simp only[adE,aek,YN,Z4];exact f
   |false=>
    simp only[X1,Z8,X',YE,Zt];rw[i,j];cases iu a.tg with
    |true=>exact f
    |false=>rfl
 exact this b.aG λa d=>⟨(h.ru a d).1,(h.ru a d).2.1⟩
theorem ra(k n:aj)(v:Nat):∀fl:eh,bP (da fl k v) n=if k=n then v else bP fl n
 |[]=>by
  unfold bP da;by_cases h:k=n
  ·rw[Yd h,ab4 (by simpa using h)];rfl
  rw[Yb h,CY (by simpa using h)]
 |x::a=>by
  rw[da];by_cases d:x.1=k
  ·rw[Yd (Zj.2 d)];unfold bP;by_cases h:k=n
   ·rw[Yd h,ab4 (by simpa using h)];rfl
   rw[Yb h,CY (by simpa using h),CY (by rw[d];simpa using h)]
  rw[Yb (by simpa using d)];by_cases h:x.1=n
  ·have f:k≠n:=λq=>d (h.trans q.symm);rw[Yb f];unfold bP;rw[ab4 (by simpa using h),ab4 (by simpa using h)]
  have i:bP (x::da a k v) n=bP (da a k v) n:=by
   unfold bP;rw[CY (by simpa using h)]
  have m:bP (x::a) n=bP a n:=by unfold bP;rw[CY (by simpa using h)]
  rw[i,m];exact (ra k n v a)
def ik(two:aj->Prop)(f:jj):List (cI×Nat)->Prop
 |[]=>True
 |x::d=>(∀a,a<x.2->two (x.1.aH.getD a [])\/(∃y∈d,y.1.name=x.1.aH.getD a [])\/f=some (x.1.aH.getD a []))/\ik two f d
theorem ik.Li{two:aj->Prop}:∀d:List (cI×Nat),ik two none (d++[dT])->ik two (some (dT.1.aH.getD dT.2 [])) (d++[(dT.1,dT.2+1)])
 |[],h=>by
  refine⟨λa f=>?_,trivial⟩;by_cases e:a=dT.2
  ·rw[e];exact .inr (.inr rfl)
  obtain q|⟨y,q,_⟩|q:=h.1 a (by simp only at f;omega)
  ·exact .inl q
  ·cases q
  cases q
 |z::i,h=>by
  refine⟨λa f=>?_,ik.Li i h.2⟩;obtain q|⟨y,q,e⟩|q:=h.1 a f
  ·exact .inl q
  ·refine .inr (.inl ?_);obtain q|q:=Yv.1 q
   ·exact⟨y,YK _ q,e⟩
   rw[Yc]at q;rw[q]at e;exact⟨(dT.1,dT.2+1),YQ _ (Yc.2 rfl),e⟩
  cases q
theorem ik.push{two:aj->Prop}(f:∀n,two n->G n)(j:dT.2=0):∀d:List (cI×Nat),ik two (some dT.1.name) d->ik G none (d++[dT])
 |[],_=>⟨λi a=>(by rw[j]at a;cases a),trivial⟩
 |x::m,h=>by
  refine⟨λi a=>?_,ik.push f j m h.2⟩;obtain q|⟨y,q,e⟩|q:=h.1 i a
  ·exact .inl (f _ q)
  ·exact .inr (.inl ⟨y,YK _ q,e⟩)
  refine .inr (.inl ⟨dT,YQ _ (Yc.2 rfl),?_⟩);exact YW q
theorem ik.seen{two:aj->Prop}(a:two j):∀d:List (cI×Nat),ik two (some j) d->ik two none d
 |[],_=>trivial
 |x::f,h=>by
  refine⟨λi m=>?_,ik.seen a f h.2⟩;obtain q|q|q:=h.1 i m
  ·exact .inl q
  ·exact .inr (.inl q)
  exact .inl (YW q▸a)
theorem ik.mf{two:aj->Prop}(a:∀n,two n->G n)(f:G dT.1.name):∀d:List (cI×Nat),ik two none (d++[dT])->ik G none d
 |[],_=>trivial
 |z::i,h=>by
  refine⟨λm j=>?_,ik.mf a f i h.2⟩;obtain q|⟨y,q,e⟩|q:=h.1 m j
  ·exact .inl (a _ q)
  ·obtain q|q:=Yv.1 q
   ·exact .inr (.inl ⟨y,q,e⟩)
   rw[Yc]at q;rw[q]at e;exact .inl (e▸f)
  cases q
theorem ik.dN{two:aj->Prop}:∀d:List (cI×Nat),ik two none (d++[dT])->∀a,a<dT.2->two (dT.1.aH.getD a [])
 |[],h,a,f=>by
  obtain q|⟨y,q,_⟩|q:=h.1 a f
  ·exact q
  ·cases q
  cases q
 |_::i,h,a,f=>ik.dN i h.2 a f
structure oE(s:St)(fs:fy)(us:List (Nat×fv))(pend:jj)(t:cT):Prop where
 vM:∀x∈t.opn,x.1=(eM s fs us x.1.name).1/\bP t.bM x.1.name=1
 zO:(t.opn.map (·.1.name)).Nodup
 lk:ik (λn=>bP t.bM n=2) pend t.opn
 sC:∀x∈t.cL,x=(eM s fs us x.name).1/\bP t.bM x.name=2/\∀n∈x.aH,bP t.bM n=2
 wj:(t.cL.map (·.name)).Nodup
 all:t.cL.length<=100->∀n,bP t.bM n=2->∃x∈t.cL,x.name=n
section
variable {t:cT}
def BQ(h:oE s fs us (some j) t)(f:(dW s fs us t j).1=0):oE s fs us none (dW s fs us t j).2:=by
 unfold dW at f⊢;by_cases m:bP t.bM j=2
 ·rw[Yd m];exact⟨h.vM,h.zO,ik.seen (two:=λn=>bP t.bM n=2) m _ h.lk,h.sC,h.wj,h.all⟩
 rw[Yb m]at f⊢;by_cases o:bP t.bM j=1
 ·rw[Yd o]at f;cases f
 rw[Yb o]at f⊢;by_cases z:(eM s fs us j).2=false
 ·rw[Yd z]at f;cases f
 rw[Yb z]at f⊢;have g:∀n v,bP t.bM n=v->n≠j->bP (da t.bM j 1) n=v:=λn v e d=>by rw[ra,Yb (λq=>d q.symm)];exact e
 have r:∀n,bP t.bM n=2->bP (da t.bM j 1) n=2:=λn e=>g n 2 e (λq=>m (q▸e));refine⟨λx p=>?_,?_,?_,λx p=>?_,h.wj,λy n d=>?_⟩
 ·obtain q|q:=Yv.1 p
  ·have⟨c,i⟩:=h.vM x q;exact⟨c,g _ 1 i (λe=>o (e▸i))⟩
  rw[Yc]at q;rw[q];simp only[wJ];exact⟨trivial,by rw[ra,Yd rfl]⟩
 ·simp only[Yy,YE,Z9,wJ];rw[ZK];refine⟨h.zO,by simp,λa E b u e=>?_⟩;rw[Yc]at u;have⟨x,c,i⟩:=YC.1 E;have:=(h.vM x c).2;rw[i,e,u]at this;exact o this
 ·refine ik.push (two:=λn=>bP t.bM n=2) r rfl _ ?_;rw[wJ];exact h.lk
 ·have⟨c,i,D⟩:=h.sC x p;exact⟨c,r _ i,λn d=>r n (D n d)⟩
 simp only at y d;rw[ra]at d;split at d
 ·cases d
 exact h.all y n d
def Ka(h:oE s fs us none t)(D:t.opn.getLast?=some dT)(j:(gd s fs us t).1=0):oE s fs us none (gd s fs us t).2:=by
 have⟨d,p⟩:=ZG.1 D;have Q:t.opn.dropLast=d:=by rw[p,Z6]
 have E:=h.vM dT (by rw[p];exact YQ _ (Yc.2 rfl));have v:=h.lk;have r:=h.zO;rw[p]at v r;rw[Yy,ZK]at r;unfold gd at j⊢;rw[D]at j⊢;simp only at j⊢;by_cases J:dT.2=dT.1.aH.length
 ·rw[Yd J]at j⊢;unfold nA;rw[D];simp only[Q];have z:∀n,bP t.bM n=2->bP (da t.bM dT.1.name 2) n=2:=λn e=>by
   rw[ra];split
   ·rfl
   exact e
  have O:bP (da t.bM dT.1.name 2) dT.1.name=2:=by rw[ra,Yd rfl]
  have V:∀n∈dT.1.aH,bP (da t.bM dT.1.name 2) n=2:=λn i=>by have⟨I,R⟩:=adU i;have g:=(Yl.1 R).1;have e:=ik.dN (two:=λn=>bP t.bM n=2) d v I (by omega);rw[Yf,R]at e;exact z n e
  have M:∀y∈t.cL,y=(eM s fs us y.name).1/\bP (da t.bM dT.1.name 2) y.name=2/\∀n∈y.aH,bP (da t.bM dT.1.name 2) n=2:=λy f=>by have⟨m,o,S⟩:=h.sC y f;exact⟨m,z _ o,λn i=>z n (S n i)⟩
  refine⟨λy f=>?_,r.1,ik.mf (two:=λn=>bP t.bM n=2) z O d v,λy f=>?_,?_,λG n i=>?_⟩
  ·have⟨m,o⟩:=h.vM y (by rw[p];exact YK _ f);refine⟨m,?_⟩;have Z:dT.1.name≠y.1.name:=λe=>r.2.2 y.1.name (YC.2 ⟨y,f,rfl⟩) dT.1.name (Yc.2 rfl) e.symm;simp only;rw[ra,Yb Z];exact o
  ·simp only at f;split at f
   ·obtain q|q:=Yv.1 f
    ·exact M y q
    rw[Yc]at q;rw[q];exact⟨E.1,O,V⟩
   exact M y f
  ·simp only;split
   ·rw[Yy,ZK];refine⟨h.wj,by simp,λa c b H e=>?_⟩;simp only[YE,Z9,Yc]at H;have⟨y,m,o⟩:=YC.1 c;have N:=(h.sC y m).2.1;rw[o,e,H,E.2]at N;cases N
   exact h.wj
  simp only at G i⊢;split at G
  ·rename_i u;rw[Yd u];rw[ra]at i;split at i
   ·rename_i e;exact⟨dT.1,YQ _ (Yc.2 rfl),e⟩
   have⟨y,m,o⟩:=h.all u n i;exact⟨y,YK _ m,o⟩
  rename_i u;exact absurd G u
 rw[Yb J]at j⊢;rw[Q]at j⊢;refine BQ ⟨λy f=>?_,?_,ik.Li (two:=λn=>bP t.bM n=2) d v,h.sC,h.wj,h.all⟩ j
 ·obtain q|q:=Yv.1 f
  ·exact h.vM y (by rw[p];exact YK _ q)
  rw[Yc]at q;rw[q];exact E
 have:=h.zO;rw[p]at this;simp only[Yy,YE,Z9]at this⊢;exact this
end
theorem wE:∀l d:fv,d.Nodup->(bR l d).Nodup
 |[],_,h=>h
 |x::f,d,h=>by
  unfold bR;split
  ·exact wE f d h
  rename_i m;refine wE f _ ?_;rw[ZK];refine⟨h,by simp,λa j b i e=>?_⟩;rw[Yc]at i;exact m (i▸e▸j)
structure oD(s:St):Prop where
 nd:∀r∈s.aG,r.nd.Nodup
def oD.add{s:St}(h:oD s)(a d:fv):oD (bA s a d).2:=by
 have j:∀i∈s.aG++[⟨a,bR d [],[]⟩],i.nd.Nodup:=λi m=>by
  obtain e|e:=Yv.1 m
  ·exact h.nd i e
  rw[Yc]at e;rw[e];exact wE d [] Z'
 unfold bA;split
 ·exact⟨h.nd⟩
 split
 ·exact⟨j⟩
 have b:∀f:aj,oD (a.foldl (d' s.aG.length) {s with aG:=s.aG++[⟨a,bR d [],[]⟩],first:=f}):=λf=>by
  have e:=(qh s.aG.length a {s with aG:=s.aG++[⟨a,bR d [],[]⟩],first:=f}).2.1;refine⟨?_⟩;rw[e];exact j
 unfold mD;simp only;split
 ·exact b _
 exact b s.first
def S0:qu oD where
 assign s l h:=by unfold iF;split<;>exact⟨h.nd⟩
 uE s op l h:=by
  unfold gH;split
  ·exact h
  split
  ·exact h
  rename_i j _ d f;split
  ·exact h
  refine⟨λx i=>?_⟩;obtain e|e:=HJ i
  ·exact h.nd x e
  rw[e];exact h.nd d (Z5 f)
 kf s l h:=by
  unfold gJ;split
  ·exact h
  split
  ·exact h
  split
  ·exact h
  split
  ·exact h
  exact oD.add (s:={s with n:=s.n+1}) ⟨h.nd⟩ _ _
 tR s a b h:=⟨h.nd⟩
def BF(b:fy)(a:aj):oD (cX b a).2.2:=Aq S0 ⟨λ_ d=>(by cases d)⟩ a
section
def EG(h:oD s):(fX s dn).Nodup:=by
 unfold fX;split
 ·by_cases a:dn.headD 0<s.aG.length
  ·exact h.nd _ (rq a)
  have e:bT s (dn.headD 0)=⟨[],[],[]⟩:=by
   unfold bT;rw[Yf,Zf (by omega)];rfl
  rw[e];exact Z'
 exact wE _ _ Z'
def Nd(h:oD s):(eM s fs us j).1.aH.Nodup:=by
 unfold eM;split
 ·split
  ·exact wE _ _ Z'
  exact EG h
 exact EG h
def Lp(g:aj):oE s fs us (some g) gU:=⟨λ_ a=>(by cases a),Z',trivial,λ_ a=>(by cases a),Z',λ_ n d=>(by cases d)⟩
theorem Hy:∀(n:Nat) (a d:Nat×cT),ee s fs us n a=some d->(a.1=0->oE s fs us none a.2)->d.1=0->oE s fs us none d.2/\d.2.opn=[]
 |0,a,d,h,i,f=>by
  rw[ee]at h;split at h
  ·rename_i q;cases h;obtain q|q:=q
   ·exact absurd f q
   exact⟨i f,q⟩
  cases h
 |n+1,a,d,h,i,f=>by
  rw[ee]at h;split at h
  ·rename_i q;cases h;obtain q|q:=q
   ·exact absurd f q
   exact⟨i f,q⟩
  rename_i q;have m:a.2.opn≠[]:=λe=>q (.inr e);cases j:a.2.opn.getLast? with
  |none=>rw[abx]at j;exact absurd j m
  |some x=>exact Hy n _ d h (λe=>Ka (i (acr λe=>q (.inl e))) j e) f
def wY(h:iy s fs us (dW s fs us gU j) o)(a:o.1=0):oE s fs us none o.2/\o.2.opn=[]:=by have⟨n,d⟩:=h;exact Hy n _ o d (λe=>BQ (Lp j) e) a
def uj(m:oD s)(h:oE s fs us none ds)(j:ds.cL.length<=100)(o:d9∈ds.cL):d9.aH.length<=100/\∀n∈d9.aH,∃y∈ds.cL,y.name=n:=by
 have⟨p,_,r⟩:=h.sC d9 o;have d:∀n∈d9.aH,∃y∈ds.cL,y.name=n:=λn d=>h.all j n (r n d);refine⟨?_,d⟩;have f:d9.aH.Nodup:=by rw[p];exact Nd m
 have:=xl d9.aH (ds.cL.map (·.name)) f (λn i=>by have⟨y,a,b⟩:=d n i;exact YC.2 ⟨y,a,b⟩);rw[Yk]at this;omega
end
theorem Kq:∀(h:List Vq) (d a:Nat) (f:d<h.length),a<5->(h.flatMap mz)[d*5+a]?=(mz h[d])[a]?
 |[],_,_,f,_=>by cases f
 |q::i,0,a,_,j=>by rw[YA,L1,YO,Zh (by show a<5;exact j)];rfl
 |q::i,d+1,a,f,j=>by
  have e:(d+1)*5+a-5=d*5+a:=by omega
  rw[YA,YH (by show 5<=(d+1)*5+a;omega)];show(i.flatMap mz)[(d+1)*5+a-5]?=_;rw[e];exact Kq i d a (by simpa using f) j
def uF{a:Obj}(h:W.heap[L]?=some a):L<W.heap.size:=by
 obtain q|q:=CI L W.heap.size
 ·exact q
 rw[abV q]at h;cases h
section
variable {q:Vq}{g:Nat}
def lP.XI(h:lP W q)(a:Dy W L i (mz q)):D4 W W.heap.size L i q.nd:=by
 have⟨H,G⟩:=h;unfold mz at a;rcases H with⟨j,d⟩|⟨n,v,u,j,E,p,M,J,y⟩<;>obtain⟨f,m⟩|⟨z,r,x,f,D,I,N,o⟩:=G
 ·rw[j,f]at a;exact⟨none,none,0,0,0,0,0,0,by rw[d,m];exact a,by rw[d];exact X0 _,λq=>(by rw[d]at q;cases q),λq=>by rw[m]at q;cases q⟩
 ·rw[j,f]at a;exact⟨none,_,0,x,0,0,z,r,by rw[d];exact a,by rw[d];exact X0 _,λq=>(by rw[d]at q;cases q),λ_=>⟨rfl,uF o,D⟩⟩
 ·rw[j,f]at a;exact⟨_,none,u,0,n,v,0,0,by rw[m];exact a,E,λ_=>⟨rfl,uF y,p⟩,λq=>by rw[m]at q;cases q⟩
 rw[j,f]at a;exact⟨_,_,u,x,n,v,z,r,a,E,λ_=>⟨rfl,uF y,p⟩,λ_=>⟨rfl,uF o,D⟩⟩
def QT(h:W.ownsRow L 197 5 (ξ g qv.length dx) qv.length (qv.flatMap mz))(n:∀q∈qv,lP W q)(a:Nat)(m:a<(qv.map Vq.nd).length):D4 W W.heap.size g (0+a*5) (qv.map Vq.nd)[a]:=by
 have i:a<qv.length:=by rwa [Yk]at m
 rw[YT];refine lP.XI (n _ (Ym i)) (λd u f=>?_);have j:d<5:=by
  obtain q|q:=CI d 5
  ·exact q
  rw[Zf (by show 5<=d;exact q)]at f;cases f
 rw[YO];exact gY h (a*5+d) u ((Kq qv a d i j).trans f)
end
theorem J2(P:Nat):∀xs:fv,(∀x∈xs,x.length<=P)->Lib.lens xs<=xs.length*P
 |[],_=>by simp[Lib.lens]
 |x::a,h=>by
  have:=J2 P a (λy d=>h y (Yp _ d));have:=h x (Yq ..);have e:Lib.lens (x::a)=x.length+Lib.lens a:=by simp[Lib.lens]
  rw[e,Ya,l5];omega
def NH(h:j∉j_ e6):bP e6 j=0:=by unfold bP;rw[ZW.2 (λx a q=>h (YC.2 ⟨x,a,Zj.1 q⟩))];rfl
section
theorem wF(f:cT->Prop)(o:∀t x,f t->t.opn.getLast?=some x->(gd s fs us t).1=0->f (gd s fs us t).2):∀(n:Nat) (a d:Nat×cT),ee s fs us n a=some d->(a.1=0->f a.2)->d.1=0->f d.2
 |0,a,d,h,i,j=>by
  rw[ee]at h;split at h
  ·cases h;exact i j
  cases h
 |n+1,a,d,h,i,j=>by
  rw[ee]at h;split at h
  ·cases h;exact i j
  rename_i q;have p:a.2.opn≠[]:=λe=>q (.inr e);cases m:a.2.opn.getLast? with
  |none=>rw[abx]at m;exact absurd m p
  |some x=>exact wF f o n _ d h (λe=>o _ x (i (acr λe=>q (.inl e))) m e) j
def SQ(d:vW s fs us U C)(i:j∈U)(h:iy s fs us (dW s fs us gU j) o)(f:o.1=0):nH U C o.2:=by have⟨n,g⟩:=h;exact wF (nH U C) (λt x a b c=>((JJ d).step t x a b c).1) n _ o g (λe=>(AN d KS j i e).1) f
def GB(d:nH U C ds)(h:oE s fs us none ds)(f:d9∈ds.cL):d9.name∈U:=by have⟨_,a,_⟩:=h.sC d9 f;refine d.key _ (acr λe=>?_);rw[NH e]at a;cases a
theorem Jg(P:List (aj×Nat)->Prop)(d:P []):∀xs:gb,(∀a∈xs,P (bT s a).cs)->P (g_ s xs)
 |[],_=>d
 |a::f,h=>by
  unfold g_;split
  ·exact h a (Yq ..)
  exact Jg P d f (λi j=>h i (Yp _ j))
def N0(P:List (aj×Nat)->Prop)(j:P [])(d:∀a,a<s.aG.length->P (bT s a).cs)(h:∀b,∀a∈s.of b,a<s.aG.length)(i:∀x∈us,x.1<s.aG.length)(b:aj):
 P (eM s fs us b).1.aI/\(eM s fs us b).1.stem.length<=b.length:=by
 have f:=Jg P j _ (λa o=>d a (h b a o));unfold eM;split
 ·split
  ·rename_i a r e;have⟨⟨x,m,p⟩,n⟩:=yD e;exact⟨d a (p▸i x m),n⟩
  exact⟨f,Yh _⟩
 exact⟨f,Yh _⟩
def RH(v:Ok s k)(R:k<=2000000000)(O:oD s)(H:∀name,∀z∈s.of name,z<s.aG.length)(I:∀d9∈us,d9.1<s.aG.length)(P:Nat)(Z:P<=8388608)(o:∀y∈U,y.length<=P)(p:nH U C ds)(h:oE s fs us none ds)(N:ds.cL.length<=100)(i:d9∈ds.cL):DN d9:=by
 have⟨f,Q⟩:=uj O h N i;have:=o _ (GB p h i);have j:∀n∈d9.aH,n.length<=P:=λn d=>by have⟨y,a,b⟩:=Q n d;rw[<-b];exact o _ (GB p h a)
 have⟨r,G⟩:=N0 (fs:=fs) (us:=us) (λm=>m.length<=k/\∀c∈m,c.1.length<=1073741824) ⟨Yh _,λc J=>(by cases J)⟩ (λz u=>⟨v.cl _ (rq u),(v.rs _ (rq u)).cw⟩) H I d9.name;rw[<-(h.sC d9 i).1]at r G;have:(Lib.join d9.aH [32]).length<=100+100*P:=by
  have E:=J2 P d9.aH j;have M:=Zs P f;cases d:d9.aH with
  |nil=>rw[Lib.join_nil];exact Yh _
  |cons y D=>rw[d]at f E M;rw[Lib.join_length];simp only[Ya,Yr]at f⊢;omega
 refine⟨by omega,r.2,by omega,by omega,?_,by omega,by omega⟩;cases d:d9.aH with
 |nil=>exact Yh _
 |cons y D=>have:=j y (by rw[d];exact Yq ..);simp only[WU];omega
end
def Iq(P:Nat)(b:fv)(h:∀x∈b,x.length<=P):(dk b).length<=b.length*(P+2):=by
 induction b with
 |nil=>simp[dk]
 |cons x f a=>have j:=a (λy d=>h y (Yp _ d));have:=h x (Yq ..);unfold dk at*;rw[YA,X4,Ya,l5];simp[jA x.length 2 (Nat.le_refl 2)] at*;omega
theorem yt:∀(v:List (aj×Nat)) (k:Nat) (a:fv) (i:Nat) (out:fv),j9 dl x v k a (.inr (i,out))->a.length<=k->a.length<=500->(∀c∈a,c.length<=2000)->out.length<=500/\∀c∈out,c.length<=2000
 |[],k,a,i,out,h,_,r,u=>by have e:(Sum.inr (i,out):(Nat×Nat)⊕(Nat×fv))=.inr (k,a):=h;cases e;exact⟨r,u⟩
 |c::m,k,a,i,out,⟨D,z,h⟩,y,n,j=>by
  split at h
  ·cases h
  split at h
  ·exact yt m k a i out h y n j
  split at h
  ·refine yt m (k+1) _ i out h ?_ ?_ (λd o=>?_)
   ·rw[X4,Ya,Yr];omega
   ·rw[X4,Ya,Yr];omega
   obtain e|e:=Yv.1 o
   ·exact j d e
   rw[Yc]at e;rw[e];have⟨f,p⟩:=z;exact rz f _ _ _ _ _ p
  exact yt m (k+1) a i out h (by omega) n j
structure vX(P:Nat)(x:cj):Prop where
 name:x.name.length<=P
 aH:x.aH.length<=100
 nw:∀n∈x.aH,n.length<=P
 aI:x.aI.length<=500
 cw:∀c∈x.aI,c.length<=2000
theorem x8{P:Nat}:∀(i:List cI) (k:Nat) (d:List cj) (f:Nat) (a:List cj),jB dl i k d (.inr (f,a))->(∀x∈i,x.name.length<=P/\x.aH.length<=100/\∀n∈x.aH,n.length<=P)->(∀x∈d,vX P x)->a.length=d.length+i.length/\∀x∈a,vX P x
 |[],k,d,f,a,h,_,j=>by have e:(Sum.inr (f,a):(Nat×Nat)⊕(Nat×List cj))=.inr (k,d):=h;cases e;exact⟨rfl,j⟩
 |x::M,k,d,f,a,⟨G,I,h⟩,o,j=>by
  cases G with
  |inl e=>cases h
  |inr u=>
   have⟨p,Q⟩:=u;have⟨E,H⟩:=yt _ _ _ _ _ I (Yh _) (Yh _) (λc J=>(by cases J));have⟨r,v,z⟩:=o x (Yq ..);have⟨D,O⟩:=x8 M p _ f a h (λy m=>o y (Yp _ m)) (λy m=>by
    obtain e|e:=Yv.1 m
    ·exact j y e
    rw[Yc]at e;rw[e];exact⟨r,v,z,E,H⟩)
   refine⟨?_,O⟩;rw[D,X4,Ya,Ya,Yr];omega
theorem Kz:∀f:List cj,(∀x∈f,vX L x)->nO f<=f.length*(L+100*(L+2)+1001002)
 |[],_=>by simp[nO]
 |x::d,h=>by
  have:=Kz d (λy i=>h y (Yp _ i));have a:=h x (Yq ..);have:=Iq L x.aH a.nw;have:=Iq 2000 x.aI a.cw;have:=Zs (L+2) a.aH;have:=Zs (2000+2) a.aI;have:=a.name;have e:nO (x::d)=x.sz+nO d:=by simp[nO]
  rw[e,Ya,l5];unfold cj.sz;omega
section
def SR(h:ds.opn≠[]\/ds.cL≠[]):(dW s fs us ds j).2.opn≠[]\/(dW s fs us ds j).2.cL≠[]:=by
 unfold dW;split
 ·exact h
 split
 ·exact h
 split
 ·exact h
 exact .inl (by simp)
def UQ(a:ds.opn.getLast?=some dT):(gd s fs us ds).2.opn≠[]\/(gd s fs us ds).2.cL≠[]:=by
 unfold gd;rw[a];simp only;split
 ·unfold nA;rw[a];refine .inr ?_;simp only;split
  ·simp
  rename_i q;exact λe=>q (by rw[e];exact Yh _)
 exact SR (.inl (by simp))
def T3{g:aj}(h:iy s fs us (dW s fs us gU g) o)(a:o.1=0):0<o.2.cL.length:=by
 have⟨n,d⟩:=h;have:=wF (λt=>t.opn≠[]\/t.cL≠[]) (λt x _ i _=>UQ i) n _ o d (λe=>by
  unfold dW at e⊢;have f:¬bP gU.bM g=2:=λq=>(by cases q);have j:¬bP gU.bM g=1:=λq=>(by cases q);rw[Yb f,Yb j]at e⊢;split at e
  ·cases e
  rename_i q;rw[Yb q];exact .inl (by simp)) a
 obtain q|q:=this
 ·exact absurd ((wY h a).2) q
 exact Y5.2 q
end
def s8(d:(Nat×Nat)⊕(Nat×List cj))(a:aj×Nat×Nat):Prop:=match d with| .inl (er,ln)=>a=([],er,ln)| .inr (k,d)=>(500<k/\a=([],5,0))\/(k<=500/\a=match ie d with|none=>([],5,0)|some f=>(f,0,0))
def uX(s:St)(b:fy)(g:aj)(a:aj×Nat×Nat):Prop:=
 (g=[]/\a=([],8,0))\/(g≠[]/\2000<g.length/\a=([],5,0))\/
  (g≠[]/\g.length<=2000/\∃q,iy s b (cJ s b s.bJ) (dW s b (cJ s b s.bJ) gU g) q/\
   ((q.1≠0/\a=([],q.1,0))\/(q.1=0/\100<q.2.cL.length/\a=([],5,0))\/
     (q.1=0/\q.2.cL.length<=100/\∃d,jB (di s.aX) q.2.cL 0 [] d/\s8 d a)))
def ji(b:fy)(a c:aj)(d:aj×Nat×Nat):Prop:=
 ((cX b a).1≠0/\d=([],(cX b a).1,(cX b a).2.1))\/
   ((cX b a).1=0/\uX (cX b a).2.2 b (gK (cX b a).2.2 c) d)
def gF(b:Bk)(t:Wk):List cI:=t.aY.map λa=>fa b (cA t a).1
def zr(S:(Nat×Nat)⊕List (fv))(b a:Nat)(d:List (fv)):Prop:=match S with
 | .inl e=>b=e.1/\a=e.2
 | .inr m=>a=0/\d=m/\((500<jk m/\b=5)\/(jk m<=500/\b=0))
def zd(b:Bk)(e:fy)(g:aj)(c a:Nat)(t:Wk)(d:List (fv)):Prop:=
 (g=[]/\c=8/\a=0)\/(g≠[]/\2000<g.length/\c=5/\a=0)\/
  (g≠[]/\g.length<=2000/\∃f q,eH b e f jR g=some q/\t=q.2/\
   ((q.1≠0/\c=q.1/\a=0)\/(q.1=0/\100<q.2.aT.length/\c=5/\a=0)\/
     (q.1=0/\q.2.aT.length<=100/\∃S,rY (nR b.aX) (gF b q.2) [] S/\zr S c a d)))
def rK(b:Bk)(f:fy)(c:aj)(e a:Nat)(t:Wk)(d:List (fv)):Prop:=(b.cH≠0/\e=b.cH/\a=b.cC)\/(b.cH=0/\zd b f (if c=[] then qx b else c) e a t d)
theorem yO:∀{i:List (aj×Nat)} {f:fv} {e:Nat×Nat},qJ dl x i f (.inl e)->e.1≠0
 |[],_,_,h=>by cases h
 |_::_,_,_,⟨d,_,h⟩=>by
  by_cases a:d.er=0
  ·rw[Yb (λq=>q a)]at h;split at h
   ·exact yO h
   exact yO h
  rw[Yd a]at h;cases h;exact a
theorem JO:∀{f:List cI} {d:List (fv)} {e:Nat×Nat},rY dl f d (.inl e)->e.1≠0
 |[],_,_,h=>by cases h
 |x::m,d,e,⟨S,a,h⟩=>by
  match S,a,h with
  | .inl j,a,h=>have i:(Sum.inl e:(Nat×Nat)⊕List (fv))=.inl j:=h;cases i;exact yO a
  | .inr l,_,h=>exact JO h
def ma(b:Bk)(t:Wk)(a:List (fv)):List cj:=List.zipWith rR (gF b t) a
theorem F2:∀(fs a:fy) (q:aj),Pl.look (fs.foldl Pl.bA a) q=(Pl.look a q).or (Pl.look fs q)
 |[],a,q=>by simp[Pl.look]
 |f::d,a,q=>by
  rw[YP,F2 d,Ti];cases Pl.look a q with
  |some g=>rfl
  |none=>
   rw[adt,adt];unfold Pl.look;rw[Zt];by_cases h:f.aL=q
   ·rw[Yd h];simp[h]
   rw[Yb h,adt,show (f.aL==q)=false from by simp[h]]
def Fk(a:fy)(q:aj):Pl.look (a.foldl Pl.bA []) q=Pl.look a q:=by rw[F2];rfl
section
variable {F:fy}
def Tl(h:∀q,Pl.look F q=Pl.look fs q)(c:Bk->aj->Bk)(a:Bool)(b:Bk)(w:aj)(n:Nat):jU c a F b w n=jU c a fs b w n:=by unfold jU;rw[h]
theorem Hk(h:∀q,Pl.look F q=Pl.look fs q)(d:Bk->aj->Bk)(c:Bool)(n:Nat):∀(a:fv) (b:Bk),lh d c F n a b=lh d c fs n a b
 |[],_=>rfl|w::a,b=>by rw[lh,lh,Tl h,Hk h d c n a]
def Sc(h:∀q,Pl.look F q=Pl.look fs q)(d:Bk->aj->Bk)(a:Bool)(b:Bk)(c:Bool)(x:Nat×aj):gA d a F b c x=gA d a fs b c x:=by unfold gA nr;rw[Hk h]
theorem Be(h:∀q,Pl.look F q=Pl.look fs q)(c:Bk->aj->Bk)(a:Bool):∀(xs:List (Nat×aj)) (b:Bk) (op:Bool),jT c a F xs b op=jT c a fs xs b op
 |[],_,_=>rfl|x::xs,b,op=>by rw[jT,jT,Sc h,Be h c a xs]
theorem Jd(h:∀q,Pl.look F q=Pl.look fs q):∀d:Nat,kC F d=kC fs d
 |0=>by funext b t;rw[kC,kC,Be h]
 |d+1=>by funext b t;rw[kC,kC,Be h,Jd h d]
def RM(h:∀q,Pl.look F q=Pl.look fs q)(a:aj):eA F a=eA fs a:=by unfold eA;rw[h,Jd h]
def TK(h:∀q,Pl.look F q=Pl.look fs q)(b:Bk)(n:aj):de b F n=de b fs n:=by
 have e:ki b F n=ki b fs n:=by unfold ki gV kF;simp only[h]
 unfold de;rw[e,h]
theorem Jh(h:∀q,Pl.look F q=Pl.look fs q)(b:Bk):∀f:Nat,eH b F f=eH b fs f
 |0=>rfl|f+1=>by funext t n;rw[eH,eH,TK h,Jh h b f]
def SF(h:∀q,Pl.look F q=Pl.look fs q)(q:rK b F j er i V f):rK b fs j er i V f:=by unfold rK zd at*;simp only[Jh h]at q;exact q
end
def Cf:(j++D).getD (j.length+k) 0=D.getD k 0:=by rw[Yf,Yf,YH (IH _ _),ZP]
def J7(a l:aj)(k:Nat):Pl.opAt (a++l) (a.length+k)=Pl.opAt l k:=by unfold Pl.opAt;rw[Cf]
def sP(a l:aj):Pl.opAt (a++l) a.length=Pl.opAt l 0:=J7 a l 0
def KE:two (j++D) (j.length+k)=two D k:=by unfold two;rw[Cf,ml,Cf]
def BU(a l:aj):bH (a++l) a.length=⟨Pl.opAt l 0,a.length,a.length+jt (Pl.opAt l 0),(bH l 0).first,(bH l 0).pN⟩:=by unfold bH;rw[sP,J7,KE,KE]
def Lo(c:aj)(m a h q d:Nat):Prop:=∀A:Aw,(∀x,a<=x->x<q->A x=none)->Pl.Spec c m q d A->Pl.Spec c m a h A
def jV(m:Nat)(e:aj)(h d:Nat):Prop:=∀a b:aj,Lo (a++(e++b)) m a.length h (a.length+e.length) d
def Ia{A:Aw}(h:A i=none):Pl.del A i=A:=by
 funext q;unfold Pl.del;split
 ·rename_i e;rw[e,h]
 rfl
def s5(a l:aj)(m h:Nat)(i:Pl.opAt l 0≠6)(u:jt (Pl.opAt l 0)≠0)(v:jt (Pl.opAt l 0)<=l.length)(j:oX m (bH l 0))(p:Pl.ig (Pl.opAt l 0)<=h)(n:Pl.eX (Pl.opAt l 0) h<=16):
 Lo (a++l) m a.length h (a.length+jt (Pl.opAt l 0)) (Pl.eX (Pl.opAt l 0) h):=λA r o=>by
 have f:=r _ ax (by omega);rw[rj (by rw[X4];omega),BU,sP];refine⟨λq d=>(by rw[f]at d;cases d),⟨by rw[sP];exact u,by rw[sP,X4];omega⟩,j,p,n,λe=>absurd e i,?_⟩;unfold nC;rw[Yb (by exact i)];simp only;rw[Ia f];exact o
def jV.nil(m h:Nat):jV m [] h h:=λ_ _ _ _ a=>a
def jV.comp(x:jV L j wk i)(y:jV L D i E):jV L (j++D) wk E:=λa b A n d=>by have f:=y (a++j) b A;rw[X4]at f n d;rw[YB]at f d⊢;exact (x a (D++b) A) (λz i E=>n z i (by omega)) (f (λz i E=>n z (by omega) (by omega)) (by rw[ml];exact d))
def Fw(T:fv)(c:ga)(e:aj)(j:jb)(g:Nat->Bool)(X:Wd)(h:jb)(f:Nat->Bool)(i:Wd):Prop:=∀(a b:aj) (d:Wd),Pl.Ends (a++(e++b)) T c a.length j g X d->Pl.Ends (a++(e++b)) T c (a.length+e.length) h f i d
def Fw.nil(T:fv)(c:ga)(b:jb)(a:Nat->Bool)(X:Wd):Fw T c [] b a X b a X:=λ_ _ _ h=>h
def Fw.comp(x:Fw T ef j e7 fl et J M v)(y:Fw T ef D J M v ag aa ab):Fw T ef (j++D) e7 fl et ag aa ab:=λa b f h=>by have d:=y (a++j) b f;rw[X4]at d⊢;rw[YB]at d;rw[YB j]at h⊢;have:=d ((x a (D++b) f) h);rw[ml]at this;exact this
def rF(T:fv)(b:ga)(a l:aj)(d:jb)(c:Nat->Bool)(X:Wd):dB T b (bH (a++l) a.length) d c X=dB T b ⟨Pl.opAt l 0,a.length,a.length+jt (Pl.opAt l 0),(bH l 0).first,(bH l 0).pN⟩ d c X:=by rw[BU]
def tf(f:ab.exit=0)(i:0<j.length)(h:∀a b:aj,dB T ef (bH (a++(j++b)) a.length) ag fl ab=(a.length+j.length,J,M,v)):Fw T ef j ag fl ab J M v:=λa b X d=>by have:=d.step (by rw[X4,X4];omega) f (by rw[h a b];simp only;omega);rw[h a b]at this;exact this
def pU:du L 2=[UInt8.ofNat (L/256),UInt8.ofNat L]:=rfl
def pK{n:Nat}(h:n<65536)(x:UInt8)(b:aj):two (x::(du n 2++b)) 1=n:=by rw[pU];unfold two;simp only[Y3,Y2,afW,afX,abW];omega
def IM(h:L<65536)(x:UInt8)(k:Nat)(b:aj):two (x::(du k 2++(du L 2++b))) 3=L:=by rw[pU,pU];unfold two;simp only[Y3,Y2,afW,afX,abW];omega
def se(k:Nat):aj:=2::du k 2
def ka(k a:Nat):aj:=3::(du k 2++du a 2)
def si(f:Nat):aj:=[4,UInt8.ofNat f]
def pT(k:Nat):aj:=7::du k 2
def mP(a:Nat):aj:=[8,UInt8.ofNat a]
def eP(n:Nat):aj:=6::du n 2
section
variable {st:jb}{X:Wd}
def Rs(h:Nat)(d:h<16):jV L [1,1] h (h+1):=λa b=>s5 a ([1,1]++b) L h (by show(1:Nat)≠6;decide) (by show(2:Nat)≠0;decide) (by show 2<=(1::1::b).length;simp) ⟨λ_=>(by show(1:UInt8).toNat<=1;decide),λe=>(by rcases e with e|e<;>cases e),λe=>(by cases e)⟩ (Yh _) (by show h-0+1<=16;omega)
def TT(d:X.exit=0):Fw T ef [1,1] st fl X (st++[true]) fl X:=tf d (by simp) λa b=>by rw[rF];rfl
def TS(f:k<L)(d:k<65536)(h:Nat)(i:h<16):jV L (se k) h (h+1):=λa b=>s5 a (se k++b) L h (by show(2:Nat)≠6;decide) (by show(3:Nat)≠0;decide) (by show 3<=(se k++b).length;simp[se,pU]) ⟨λe=>(by cases e),λ_=>(by show two (2::(du k 2++b)) 1<L;rw[pK d];exact f),λe=>(by cases e)⟩ (Yh _) (by show h-0+1<=16;omega)
def VJ(d:k<65536)(f:X.exit=0):Fw T ef (se k) st fl X (st++[(Pl.look X.aW (T.getD k [])).isNone]) fl X:=tf f (by simp[se]) λa b=>by rw[rF];show(a.length+3,st++[(Pl.look X.aW (T.getD (two (2::(du k 2++b)) 1) [])).isNone],fl,X)=_;rw[pK d];rfl
def UK(h:Nat)(d:h<16):jV L (si wk) h (h+1):=λa b=>s5 a (si wk++b) L h (by show(4:Nat)≠6;decide) (by show(2:Nat)≠0;decide) (by show 2<=(si wk++b).length;simp[si]) ⟨λe=>(by cases e),λe=>(by rcases e with e|e<;>cases e),λe=>(by cases e)⟩ (Yh _) (by show h-0+1<=16;omega)
def Wc(d:L<256)(h:X.exit=0):Fw T ef (si L) st fl X (st++[fl L]) fl X:=tf h (by simp[si]) λa b=>by rw[rF];show(a.length+2,st++[fl (UInt8.ofNat L).toNat],fl,X)=_;rw[abW,Nat.mod_eq_of_lt d];rfl
def Ky{h:Nat}(d:h<15):jV L [5] (h+2) (h+1):=λa b=>s5 a ([5]++b) L (h+2) (by show(5:Nat)≠6;decide) (by show(1:Nat)≠0;decide) (by show 1<=(5::b).length;simp) ⟨λe=>(by cases e),λe=>(by rcases e with e|e<;>cases e),λe=>(by cases e)⟩ (by show 2<=h+2;omega) (by show h+2-2+1<=16;omega)
def K4(u v:Bool)(d:X.exit=0):Fw T ef [5] (st++[u]++[v]) fl X (st++[v||u]) fl X:=tf d (by simp) λa b=>by rw[rF];show(a.length+1,(st++[u]++[v]).dropLast.dropLast++[(st++[u]++[v]).getLast?.getD false||(st++[u]++[v]).dropLast.getLast?.getD false],fl,X)=_;simp
def UH(d:k<L)(j:k<65536)(n:i<L)(o:i<65536)(h:Nat)(r:h<16):jV L (ka k i) h (h+1):=λa b=>s5 a (ka k i++b) L h (by show(3:Nat)≠6;decide) (by show(5:Nat)≠0;decide) (by show 5<=(ka k i++b).length;simp[ka,pU]) ⟨λe=>(by cases e),λe=>(by rcases e with e|e<;>cases e),λ_=>(by have f:two (ka k i++b) 1=k:=(by unfold ka;rw[Y3,YB,pK j]);have p:two (ka k i++b) 3=i:=(by unfold ka;rw[Y3,YB,IM o]);exact⟨(by show two (ka k i++b) 1<L;rw[f];exact d),(by show two (ka k i++b) 3<L;rw[p];exact n)⟩)⟩ (Yh _) (by show h-0+1<=16;omega)
def VA(d:k<65536)(j:i<65536)(f:X.exit=0):Fw T ef (ka k i) st fl X (st++[h_ X.aW (T.getD k []) (T.getD i [])]) fl X:=tf f (by simp[ka]) λa b=>by
 rw[rF];have h:two (ka k i++b) 1=k:=by unfold ka;rw[Y3,YB,pK d]
 have m:two (ka k i++b) 3=i:=by unfold ka;rw[Y3,YB,IM j]
 show(a.length+5,st++[h_ X.aW (T.getD (two (ka k i++b) 1) []) (T.getD (two (ka k i++b) 3) [])],fl,X)=_;rw[h,m];rfl
def S2(f:k<L)(d:k<65536)(h:Nat)(i:h<=16):jV L (pT k) h h:=λa b=>s5 a (pT k++b) L h (by show(7:Nat)≠6;decide) (by show(3:Nat)≠0;decide) (by show 3<=(pT k++b).length;simp[pT,pU]) ⟨λe=>(by cases e),λ_=>(by show two (7::(du k 2++b)) 1<L;rw[pK d];exact f),λe=>(by cases e)⟩ (Yh _) (by show h-0+0<=16;omega)
def TW(d:k<65536)(f:X.exit=0):Fw T ef (pT k) st fl X st fl (eI ef X (T.getD k [])):=tf f (by simp[pT]) λa b=>by rw[rF];show(a.length+3,st,fl,eI ef X (T.getD (two (7::(du k 2++b)) 1) []))=_;rw[pK d];rfl
def TX(d h:Nat)(f:h<=16):jV L (mP d) h h:=λa b=>s5 a (mP d++b) L h (by show(8:Nat)≠6;decide) (by show(2:Nat)≠0;decide) (by show 2<=(mP d++b).length;simp[mP]) ⟨λe=>(by cases e),λe=>(by rcases e with e|e<;>cases e),λe=>(by cases e)⟩ (Yh _) (by show h-0+0<=16;omega)
def Vu(d:i<256)(f:X.exit=0):Fw T ef (mP i) st fl X st (λq=>if q=i then true else fl q) X:=tf f (by simp[mP]) λa b=>by rw[rF];show(a.length+2,st,(λq=>if q=(UInt8.ofNat i).toNat then true else fl q),X)=_;rw[abW,Nat.mod_eq_of_lt d];rfl
end
def nN:Aw:=λ_=>none
def Rz{c:aj}(n:Pl.Spec c L i wk nN):Pl.Spec c L i wk (Pl.put nN i wk):=by
 have e:Pl.del (Pl.put nN i wk) i=Pl.del nN i:=by
  funext q;unfold Pl.del Pl.put;split
  ·rfl
  rfl
 have r:Pl.n_ (Pl.put nN i wk) i wk:=λq j=>by unfold Pl.put at j;rw[Yd rfl]at j;cases j;rfl
 by_cases p:i<c.length
 ·rw[rj p]at n⊢;have⟨_,a,b,d,f,g,o⟩:=n;refine⟨r,a,b,d,f,?_,?_⟩
  ·rw[e];exact g
  unfold nC at o⊢;rw[show (bH c i).bp=i from rfl]at o⊢;rw[e];exact o
 rw[BG p]at n⊢;exact⟨r,n.2.1,λq j=>by unfold Pl.put;rw[Yb j];rfl⟩
def Qc(a l:aj)(j:wk<65536)(i:Pl.Spec (a++(eP wk++l)) L (a.length+3) 0 (Pl.put nN (a.length+3+wk) 0)):Pl.Spec (a++(eP wk++l)) L a.length 1 nN:=by
 have f:Pl.opAt (eP wk++l) 0=6:=rfl;have b:(bH (eP wk++l) 0).first=wk:=by show two (6::(du wk 2++l)) 1=wk;exact pK j _ _
 have h:Pl.del nN a.length=nN:=Ia rfl;rw[rj (by simp[eP]),BU,sP,f,b];refine⟨λq d=>(by cases d),⟨by rw[sP,f];decide,?_⟩,⟨λe=>(by cases e),λe=>(by rcases e with e|e<;>cases e),λe=>(by cases e)⟩,by decide,by decide,λ_ q d=>?_,?_⟩
 ·rw[sP,f];show a.length+3<=_;simp[eP,pU]
 ·rw[h]at d;cases d
 unfold nC;simp only[Z8];rw[h];exact i
def vw(F K:aj->Nat)(b a:aj):aj:=si (F a)++([5]++(ka (K b) (K a)++[5]))
def pd(F K:aj->Nat)(a:Bool)(b:aj)(d:fv):aj:=if a then [1,1] else se (K b)++d.flatMap (vw F K b)
def iZ(K:aj->Nat)(a:fv):aj:=a.flatMap λc=>pT (K c)
def kD(K:aj->Nat)(a:fv)(d:Nat):aj:=iZ K a++mP d
def kL(F K:aj->Nat)(x:cj)(a:Nat):aj:=pd F K x.ph x.name x.aH++(eP (kD K x.aI a).length++kD K x.aI a)
structure jY(T:fv)(K:aj->Nat)(s:aj):Prop where
 lt:K s<T.length
 bp:T.getD (K s) []=s
section
variable {F:aj->Nat}
def P8(f:T.length<=65536)(a:jY T K D)(d:jY T K j):jV T.length (vw F K D j) 1 1:=(UK 1 (by decide)).comp ((Ky (h:=0) (by decide)).comp ((UH a.lt (Yo a.lt f) d.lt (Yo d.lt f) 1 (by decide)).comp (Ky (h:=0) (by decide))))
theorem Gs(d:T.length<=65536)(f:jY T K j):∀a:fv,(∀n∈a,jY T K n)->jV T.length (a.flatMap (vw F K j)) 1 1
 |[],_=>jV.nil _ _
 |n::i,h=>by rw[YA];exact(P8 d f (h n (Yq ..))).comp (Gs d f i λy b=>h y (Yp _ b))
def Ug{d:Bool}(h:T.length<=65536)(f:d=false->jY T K j)(i:d=false->∀n∈a,jY T K n):jV T.length (pd F K d j a) 0 1:=by
 unfold pd;cases d with
 |true=>exact Rs 0 (by decide)|false=>exact(TS (f rfl).lt (Yo (f rfl).lt h) 0 (by decide)).comp (Gs h (f rfl) a (i rfl))
theorem Hn(a:T.length<=65536):∀d:fv,(∀c∈d,jY T K c)->jV T.length (iZ K d) 0 0
 |[],_=>jV.nil _ _
 |c::i,h=>by unfold iZ;rw[YA];have f:=h c (Yq ..);exact(S2 f.lt (Yo f.lt a) 0 (by decide)).comp (Hn a i λy j=>h y (Yp _ j))
def Rest(m:Nat)(e:aj):Prop:=∀a b:aj,Pl.Spec (a++(e++b)) m (a.length+e.length) 0 nN->Pl.Spec (a++(e++b)) m a.length 0 nN
def Rest.nil(m:Nat):Rest m []:=λ_ _ h=>h
def Rest.comp(x:Rest L j)(y:Rest L D):Rest L (j++D):=λa b d=>by have f:=y (a++j) b;rw[X4]at f d;rw[YB]at f d⊢;exact (x a (D++b)) (f (by rw[ml];exact d))
structure zI(T:fv)(K:aj->Nat)(x:cj):Prop where
 name:x.ph=false->jY T K x.name
 aH:x.ph=false->∀n∈x.aH,jY T K n
 aI:∀c∈x.aI,jY T K c
def QY(r:T.length<=65536)(h:zI T K eg)(E:(kD K eg.aI i).length<65536):Rest T.length (kL F K eg i):=λa b d=>by
 unfold kL at d⊢;generalize H:kD K eg.aI i=B at*;have I:jV T.length B 0 0:=by rw[<-H];exact(Hn r eg.aI h.aI).comp (TX i 0 (by decide))
 have v:=Ug (F:=F) r h.name h.aH;generalize pd F K eg.ph eg.name eg.aH=P at*;have o:(eP B.length).length=3:=rfl;have j:a++(P++(eP B.length++B)++b)=(a++P)++(eP B.length++(B++b)):=by simp
 have n:a++(P++(eP B.length++B)++b)=(a++P++eP B.length)++(B++b):=by simp
 have u:a++(P++(eP B.length++B)++b)=a++(P++(eP B.length++B++b)):=by simp
 have G:a.length+(P++(eP B.length++B)).length=(a++P).length+3+B.length:=by simp only[X4,o];omega
 have f:(a++P++eP B.length).length=(a++P).length+3:=by simp only[X4,o]
 rw[G]at d;have D:=Rz d;have p:=I (a++P++eP B.length) b (Pl.put nN ((a++P).length+3+B.length) 0) (λz _ y=>by unfold Pl.put;rw[Yb (by rw[f]at y;omega)];rfl) (by rw[<-n,f];exact D);rw[<-n,f,j]at p;have m:=Qc (a++P) (B++b) E p;rw[<-j,u]at m;rw[u];refine v a (eP B.length++B++b) nN (λ_ _ _=>rfl) ?_;rw[<-X4];exact m
def qQ(F:aj->Nat)(b:Nat->Bool)(a:fy)(x:cj):Bool:=x.ph||((Pl.look a x.name).isNone||x.aH.any λn=>b (F n)||h_ a x.name n)
def gv(b:ga):fv->Wd->Wd
 |[],X=>X
 |c::a,X=>if X.exit=0 then gv b a (eI b X c) else X
def JI(b:ga)(X:Wd)(h:X.exit≠0):gv b a X=X:=by
 cases a with
 |nil=>rfl|cons c d=>rw[gv,Yb h]
def mX(b:ga)(F:aj->Nat)(a:Nat)(x:cj)(s:(Nat->Bool)×Wd):(Nat->Bool)×Wd:=if qQ F s.1 s.2.aW x then((λq=>if q=a then true else s.1 q),gv b x.aI s.2) else s
def tV(b:ga)(F:Nat->aj->Nat):List cj->Nat->(Nat->Bool)×Wd->Wd
 |[],_,s=>s.2
 |x::d,a,s=>if s.2.exit=0 then tV b F d (a+1) (mX b (F a) a x s) else s.2
theorem Jp(a:aj->Bool)(q:aj->Bool):∀(d:fv) (u:Bool),d.foldl (λu n=>q n||(a n||u)) u=(u||d.any λn=>a n||q n)
 |[],u=>by simp
 |n::f,u=>by rw[YP,Jp a q f,l9];cases u<;>cases a n<;>cases q n<;>simp
variable {X:Wd}
theorem I3(f:T.length<=65536)(i:jY T K j)(a:X.exit=0):∀(d:fv) (u:Bool),(∀n∈d,jY T K n/\F n<256)->Fw T ef (d.flatMap (vw F K j)) [u] fl X [d.foldl (λu n=>h_ X.aW j n||(fl (F n)||u)) u] fl X
 |[],_,_=>Fw.nil _ _ _ _ _
 |n::r,u,h=>by have⟨m,z⟩:=h n (Yq ..);rw[YA,YP];have o:Fw T ef (si (F n)) [u] fl X ([]++[u]++[fl (F n)]) fl X:=Wc z a;have p:Fw T ef [5] ([]++[u]++[fl (F n)]) fl X ([]++[fl (F n)||u]) fl X:=K4 u (fl (F n)) a;have b:=VA (T:=T) (ef:=ef) (st:=[fl (F n)||u]) (fl:=fl) (Yo i.lt f) (Yo m.lt f) a;rw[i.bp,m.bp]at b;have x:Fw T ef [5] ([]++[fl (F n)||u]++[h_ X.aW j n]) fl X ([]++[h_ X.aW j n||(fl (F n)||u)]) fl X:=K4 _ _ a;exact(o.comp (p.comp (b.comp x))).comp (I3 f i a r _ λy v=>h y (Yp _ v))
def VP(j:T.length<=65536)(h:zI T K eg)(o:∀n∈eg.aH,F n<256)(d:X.exit=0):Fw T ef (pd F K eg.ph eg.name eg.aH) [] fl X [qQ F fl X.aW eg] fl X:=by
 unfold pd qQ;cases a:eg.ph with
 |true=>exact TT d
 |false=>have f:=VJ (T:=T) (ef:=ef) (st:=[]) (fl:=fl) (Yo (h.name a).lt j) d;rw[(h.name a).bp]at f;have i:=I3 (ef:=ef) (fl:=fl) j (h.name a) d eg.aH ((Pl.look X.aW eg.name).isNone) λn m=>⟨h.aH a n m,o n m⟩;rw[Jp]at i;exact f.comp i
def QL(a l:aj)(u:Bool)(f:L<65536)(d:X.exit=0)(h:Pl.Ends (a++(eP L++l)) T ef a.length [u] fl X v):Pl.Ends (a++(eP L++l)) T ef (if u then a.length+3 else a.length+3+L) [] fl X v:=by
 have e:dB T ef (bH (a++(eP L++l)) a.length) [u] fl X=(if u then a.length+3 else a.length+3+L,[],fl,X):=by rw[rF];show(if u then a.length+3 else a.length+3+two (6::(du L 2++l)) 1,[],fl,X)=_;rw[pK f]
 have:=h.step (by simp[eP]) d (by rw[e];cases u<;>simp<;>omega);rw[e]at this;exact this
theorem FY(p:T.length<=65536):∀(d:fv) (X:Wd) (a b:aj) (f:Wd),(∀c∈d,jY T K c)->X.exit=0->Pl.Ends (a++(iZ K d++b)) T ef a.length [] fl X f->((gv ef d X).exit=0/\Pl.Ends (a++(iZ K d++b)) T ef (a.length+(iZ K d).length) [] fl (gv ef d X) f)\/((gv ef d X).exit≠0/\f=gv ef d X)
 |[],X,a,b,f,_,m,h=> .inl ⟨m,h⟩
 |c::i,X,a,b,f,o,m,h=>by
  have r:=o c (Yq ..);have v:iZ K (c::i)=pT (K c)++iZ K i:=by unfold iZ;rw[YA]
  rw[v]at h⊢;rw[YB]at h⊢;have n:=TW (Yo r.lt p) m a (iZ K i++b) f h;rw[r.bp]at n;rw[gv,Yd m];by_cases j:(eI ef X c).exit=0
  ·have:=FY p i (eI ef X c) (a++pT (K c)) b f (λy u=>o y (Yp _ u)) j (by rw[X4,YB];exact n);rw[X4,YB]at this;rw[X4,<-ml];exact this
  rw[JI _ _ j];exact .inr ⟨j,(n.stop λq=>j q.2).symm⟩
def Gj(z:T.length<=65536)(h:zI T K eg)(N:∀n∈eg.aH,F n<256)(R:i<256)(J:(kD K eg.aI i).length<65536)(j:X.exit=0)(a b:aj)(p:Pl.Ends (a++(kL F K eg i++b)) T ef a.length [] fl X v):((mX ef F i eg (fl,X)).2.exit=0/\Pl.Ends (a++(kL F K eg i++b)) T ef (a.length+(kL F K eg i).length) [] (mX ef F i eg (fl,X)).1 (mX ef F i eg (fl,X)).2 v)\/((mX ef F i eg (fl,X)).2.exit≠0/\v=(mX ef F i eg (fl,X)).2):=by
 have O:=VP (ef:=ef) (fl:=fl) z h N j;unfold kL at p⊢;generalize pd F K eg.ph eg.name eg.aH=P at*;have u:kD K eg.aI i=iZ K eg.aI++mP i:=rfl;generalize V:kD K eg.aI i=B at*;have r:(eP B.length).length=3:=rfl;have o:a++(P++(eP B.length++B)++b)=(a++P)++(eP B.length++(B++b)):=by simp
 have E:a++(P++(eP B.length++B)++b)=a++(P++(eP B.length++B++b)):=by simp
 have I:a++(P++(eP B.length++B)++b)=(a++P++eP B.length)++(iZ K eg.aI++(mP i++b)):=by rw[u];simp
 have y:a++(P++(eP B.length++B)++b)=(a++P++eP B.length++iZ K eg.aI)++(mP i++b):=by rw[u];simp
 have H:a.length+(P++(eP B.length++B)).length=(a++P).length+3+B.length:=by simp only[X4,r];omega
 have S:(a++P++eP B.length).length=(a++P).length+3:=by simp only[X4,r]
 rw[E]at p;have D:=O a (eP B.length++B++b) v p;rw[<-E,o,<-X4]at D;have d:=QL (a++P) (B++b) _ J j D;unfold mX;cases G:qQ F fl X.aW eg with
 |false=>simp only[G,YN,Z4]at d⊢;refine .inl ⟨j,?_⟩;rw[H,o];exact d
 |true=>
  simp only[G,Z8]at d⊢;rw[<-o,I,<-S]at d;rcases FY z eg.aI X (a++P++eP B.length) (mP i++b) v h.aI j d with⟨f,m⟩|⟨f,m⟩
  ·refine .inl ⟨f,?_⟩;rw[<-I,y,<-X4]at m;have Q:=Vu R f (a++P++eP B.length++iZ K eg.aI) b v m;rw[H,y];have M:(a++P++eP B.length++iZ K eg.aI).length+(mP i).length=(a++P).length+3+B.length:=by
    have Z:B.length=(iZ K eg.aI).length+(mP i).length:=by rw[u,X4]
    simp only[X4,r];omega
   rw[<-M];exact Q
  exact .inr ⟨f,m⟩
end
def fG(T:fv)(s:aj):Nat:=(T.findIdx? (λx=>x==s)).getD T.length
structure Gd(T:fv)(q:Wr):Prop where
 aZ:q.a_<+:T
 ok:q.lK=false
def pG:(cy em L dn).bk=em.bk++(UInt8.ofNat L::(du (dn.getD 0 0) (iA L 0)++du (dn.getD 1 0) (iA L 1))):=by show(em.bk++[UInt8.ofNat L]++du (dn.getD 0 0) (iA L 0))++du (dn.getD 1 0) (iA L 1)=_;simp
def EX:(cy em L dn).lK=((em.lK||Cp.iC (dn.getD 0 0) (iA L 0))||Cp.iC (dn.getD 1 0) (iA L 1)):=rfl
section
variable {q:Wr}
def Gd.add{op:Nat}{os:gb}(h:Gd T (cy q op os)):Gd T q/\Cp.iC (os.getD 0 0) (iA op 0)=false/\Cp.iC (os.getD 1 0) (iA op 1)=false:=by have d:=h.aZ;have a:=h.ok;rw[iD]at d;rw[EX,Y_,Y_]at a;exact⟨⟨d,a.1.1⟩,a.1.2,a.2⟩
def FH(h:a<+:T)(m:a.findIdx? (λx=>x==j)=some i):fG T j=i/\jY T (fG T) j:=by
 obtain⟨f,rfl⟩:=h;have e:(a++f).findIdx? (λx=>x==j)=some i:=by rw[ZS,m];rfl
 have d:fG (a++f) j=i:=by unfold fG;rw[e];rfl
 have⟨s,n,_⟩:=YM.1 e;refine⟨d,⟨by rw[d];exact s,?_⟩⟩;rw[d,Yf,X9 s];exact Zj.1 n
def Gd.dd(h:Gd T (q.dd j)):Gd T q/\q.bh j=fG T j/\jY T (fG T) j:=by
 have a:=h.aZ;have d:=h.ok;unfold Wr.dd at a d;unfold Wr.bh;cases f:q.a_.findIdx? (λx=>x==j) with
 |some m=>rw[f]at a d;have⟨i,s⟩:=FH a f;exact⟨⟨a,d⟩,i.symm,s⟩
 |none=>
  rw[f]at a d;have e:(q.a_++[j]).findIdx? (λx=>x==j)=some q.a_.length:=by rw[ZS,f];simp[List.findIdx?_cons]
  have⟨i,s⟩:=FH a e;exact⟨⟨(List.prefix_append _ _).trans a,d⟩,i.symm,s⟩
def yI(h:Cp.iC L wk=false):L<256^wk:=by unfold Cp.iC at h;have:=acQ h;omega
theorem F1:∀(a:fv) (q:Wr),Gd T (a.foldl gQ q)->Gd T q/\(a.foldl gQ q).bk=q.bk++iZ (fG T) a/\∀c∈a,jY T (fG T) c
 |[],q,h=>⟨h,by simp[iZ],λc u=>by cases u⟩
 |c::f,q,h=>by
  have⟨m,i,o⟩:=F1 f (gQ q c) h;obtain⟨d,-,-⟩:=m.add;have⟨r,p,n⟩:=d.dd;refine⟨r,?_,λy j=>?_⟩
  ·rw[YP,i];unfold gQ;rw[pG,oL,p];unfold iZ;rw[YA,YB];rfl
  obtain e|e:=YD.1 j
  ·rw[e];exact n
  exact o y e
theorem FP(g:eh)(b:aj):∀(a:fv) (q:Wr),Gd T (a.foldl (gu g (fG T b)) q)->Gd T q/\(a.foldl (gu g (fG T b)) q).bk=q.bk++a.flatMap (vw (bP g) (fG T) b)/\∀n∈a,jY T (fG T) n/\bP g n<256
 |[],q,h=>⟨h,by simp,λc E=>by cases E⟩
 |n::i,q,h=>by
  have⟨d,j,x⟩:=FP g b i (gu g (fG T b) q n) h;unfold gu at d;obtain⟨f,-,-⟩:=d.add;obtain⟨z,-,-⟩:=f.add;have⟨p,D,r⟩:=z.dd;obtain⟨v,-,-⟩:=p.add;obtain⟨o,m,-⟩:=v.add;refine⟨o,?_,λy u=>?_⟩
  ·rw[YP,j];unfold gu;rw[pG,pG,oL,pG,pG,D,YA,<-YB];congr 1;simp only[YB];rfl
  obtain e|e:=YD.1 u
  ·rw[e];exact⟨r,yI m⟩
  exact x y e
def O2(x:cj)(h:Gd T (iR e6 q x.ph x.name x.aH)):Gd T q/\(iR e6 q x.ph x.name x.aH).bk=q.bk++pd (bP e6) (fG T) x.ph x.name x.aH/\(x.ph=false->jY T (fG T) x.name)/\(x.ph=false->∀n∈x.aH,jY T (fG T) n/\bP e6 n<256):=by
 unfold iR at h⊢;unfold pd;cases j:x.ph with
 |true=>rw[j]at h;simp only[Z8]at h⊢;obtain⟨d,-,-⟩:=h.add;exact⟨d,by rw[pG];rfl,λe=>(by cases e),λe=>(by cases e)⟩
 |false=>
  rw[j]at h;simp only[YN,Z4]at h⊢;have r:∀(i:fv) (m:Nat) (a:Wr),Gd T (i.foldl (gu e6 m) a)->Gd T a:=λi m=>by
   induction i with
   |nil=>exact λa f=>f
   |cons n D y=>intro a f;have o:=y _ f;unfold gu at o;exact o.add.1.add.1.dd.1.add.1.add.1
  have⟨d,u,v⟩:=(r _ _ _ h).add.1.dd;rw[u]at h⊢;obtain⟨-,z,p⟩:=FP e6 x.name x.aH _ h;refine⟨d,?_,λ_=>v,λ_=>p⟩;rw[z,pG,oL,YB];rfl
def Qi(h:Gd T (nD q a L)):Gd T q/\(nD q a L).bk=q.bk++(eP (kD (fG T) a L).length++kD (fG T) a L)/\(∀c∈a,jY T (fG T) c)/\(kD (fG T) a L).length<65536/\L<256:=by
 have f:=h.ok;unfold nD vE at f;rw[Y_]at f;have j:Gd T (gy (cy q 6 []) a L):=⟨h.aZ,f.1⟩;unfold gy at j;obtain⟨o,p,-⟩:=j.add;have⟨u,x,v⟩:=F1 a _ o;have n:(gy (cy q 6 []) a L).bk=q.bk++([6,0,0]++kD (fG T) a L):=by unfold gy kD;rw[pG,x,pG];simp only[YB];rfl
 have m:(gy (cy q 6 []) a L).bk.length-(q.bk.length+1+2)=(kD (fG T) a L).length:=by rw[n];simp only[X4,Ya,Yr];omega
 have i:=yI f.2;rw[m]at i;refine⟨u.add.1,?_,v,i,yI p⟩;unfold nD vE;simp only;rw[m,n];have r:(q.bk++([6,0,0]++kD (fG T) a L)).take (q.bk.length+1)=q.bk++[6]:=by rw[aeY,YF (by omega),ZP];rfl
 have y:(q.bk++([6,0,0]++kD (fG T) a L)).drop (q.bk.length+1+2)=kD (fG T) a L:=by rw[List.drop_append,Zz (by omega),show q.bk.length+1+2-q.bk.length=3 by omega];rfl
 rw[r,y,YB];rfl
end
def pA(a:List cj)(d:Nat):aj->Nat:=bP (dm a (d+1)).2
def mj(F:Nat->aj->Nat)(K:aj->Nat):List cj->Nat->aj
 |[],_=>[]
 |x::d,a=>kL (F a) K x a++mj F K d (a+1)
theorem GG(F:Nat->aj->Nat)(K:aj->Nat)(x:cj):∀(d:List cj) (a:Nat),mj F K (d++[x]) a=mj F K d a++kL (F (a+d.length)) K x (a+d.length)
 |[],a=>by simp[mj]
 |y::f,a=>by rw[Y3,mj,mj,GG F K x f (a+1),YB,Ya];rw[show a+1+f.length=a+(f.length+1) by omega]
structure xJ(T:fv)(F:Nat->aj->Nat)(x:cj)(i:Nat):Prop where
 k:zI T (fG T) x
 f:x.ph=false->∀n∈x.aH,F i n<256
 b:(kD (fG T) x.aI i).length<65536
 n:i<256
theorem Ao{T:fv}(d:List cj):∀a,a<=d.length->Gd T (dm d a).1->(dm d a).1.bk=mj (pA d) (fG T) (d.take a) 0/\∀f (h:f<d.length),f<a->xJ T (pA d) d[f] f
 |0,_,_=>⟨by simp[dm,mj],λf _ p=>by omega⟩
 |a+1,M,h=>by
  have o:a<d.length:=by omega
  have e:=ud d a o;have b:pA d a=bP (da (dm d a).2 d[a].name a):=by unfold pA;rw[e]
  rw[e]at h⊢;simp only at h⊢;have⟨r,G,y,H,D⟩:=Qi h;have⟨u,z,x,m⟩:=O2 d[a] r;have⟨E,v⟩:=Ao d a (by omega) u;refine⟨?_,λf p J=>?_⟩
  ·rw[G,z,E,Yn o,GG,YL,mY (by omega),YO,b];unfold kL;rw[YB]
  by_cases I:f<a
  ·exact v f p I
  obtain rfl:f=a:=by omega
  exact⟨⟨x,λi n j=>(m i n j).1,y⟩,λi n j=>by rw[b];exact(m i n j).2,H,D⟩
theorem Ii(i:T.length<=65536):∀(f:List cj) (d:Nat),(∀a (h:a<f.length),xJ T eu f[a] (d+a))->Rest T.length (mj eu (fG T) f d)
 |[],_,_=>Rest.nil _
 |x::m,d,h=>by have j:=h 0 (Nat.succ_pos _);rw[mj];refine(QY i j.k j.b).comp (Ii i m (d+1) λa n=>?_);have:=h (a+1) (by simpa using n);rw[show d+(a+1)=d+1+a by omega]at this;exact this
def Wg{G:aj->Nat}(h:eg.ph=true):qQ K fl fs eg=qQ G fl fs eg:=by unfold qQ;rw[h];rfl
def V'(a:Nat)(h:eg.ph=true):kL K ey eg a=kL (λ_=>0) ey eg a:=by unfold kL pd;rw[h];rfl
def Pw(m:T.length<=65536)(h:xJ T eu eg i)(o:ab.exit=0)(a b:aj)(j:Pl.Ends (a++(kL (eu i) (fG T) eg i++b)) T ef a.length [] fl ab v):((mX ef (eu i) i eg (fl,ab)).2.exit=0/\Pl.Ends (a++(kL (eu i) (fG T) eg i++b)) T ef (a.length+(kL (eu i) (fG T) eg i).length) [] (mX ef (eu i) i eg (fl,ab)).1 (mX ef (eu i) i eg (fl,ab)).2 v)\/((mX ef (eu i) i eg (fl,ab)).2.exit≠0/\v=(mX ef (eu i) i eg (fl,ab)).2):=by
 cases d:eg.ph with
 |false=>exact Gj m h.k (h.f d) h.n h.b o a b j
 |true=>rw[V' i d]at j⊢;have:=Gj (F:=λ_=>0) m h.k (λ_ _=>by decide) h.n h.b o a b j;unfold mX at this⊢;rw[Wg (G:=eu i) d]at this;exact this
theorem IB(u:T.length<=65536):∀(m:List cj) (d:Nat) (fl:Nat->Bool) (X j:Wd) (a:aj),(∀f (h:f<m.length),xJ T eu m[f] (d+f))->X.exit=0->Pl.Ends (a++mj eu (fG T) m d) T ef a.length [] fl X j->j=tV ef eu m d (fl,X)
 |[],d,fl,X,j,a,_,_,i=>by rw[mj,ZR]at i;exact(i.stop λq=>by omega).symm
 |x::p,d,fl,X,j,a,h,r,i=>by
  rw[mj]at i;rw[tV,Yd r];obtain⟨n,o⟩|⟨n,o⟩:=Pw u (h 0 (Nat.succ_pos _)) r a _ i
  ·refine IB u p (d+1) _ _ j (a++kL (eu d) (fG T) x d) (λf z=>?_) n ?_
   ·have:=h (f+1) (by simpa using z);rw[show d+(f+1)=d+1+f by omega]at this;exact this
   rw[X4,YB];exact o
  rw[o];cases p with|nil=>rfl|cons y s=>rw[tV];exact(Yb n).symm
theorem JZ(c:aj):∀T:fv,(∀s∈T,s.length<65536)->Pl.a_ T.length (dk T++c)=some (T,c)
 |[],_=>rfl
 |s::a,h=>by
  have e:dk (s::a)++c=du s.length 2++(s++(dk a++c)):=by unfold dk;rw[YA];simp
  have n:two (du s.length 2++(s++(dk a++c))) 0=s.length:=by have:=pK (h s (Yq ..)) 0 (s++(dk a++c));unfold two at this⊢;exact this
  rw[Ya,e,Pl.a_,n,Yd ⟨by simp[pU],by simp only[pU,X4,Ya,Yr];omega⟩];have m:(du s.length 2++(s++(dk a++c))).drop (2+s.length)=dk a++c:=by rw[<-z6];show(s++(dk a++c)).drop s.length=_;exact adl
  have d:((du s.length 2++(s++(dk a++c))).drop 2).take s.length=s:=by show(s++(dk a++c)).take s.length=s;exact acZ
  rw[m,d,JZ c a λy f=>h y (Yp _ f)];rfl
def Ut(h:ie d=some j):∃T c,Pl.load j=some (T,c)/\k_ j/\∀ef X,X.exit=0->gm c T ef X=tV ef (pA d) d 0 ((λ_=>false),X):=by
 unfold ie oW at h;generalize r:(dm d d.length).1=w at h;split at h
 ·cases h
 rename_i v;cases h;rw[E3,Y_]at v;have⟨f,x⟩:=v;unfold nG at f;rw[Y_,Y_,YR]at f;have E:w.a_.length<=1000:=by have:=acQ x;omega
 have m:∀s∈w.a_,s.length<65536:=λs m=>by have:=pe.1 f.2 s m;exact yI (by simpa using this)
 have⟨i,y⟩:=Ao (T:=w.a_) d d.length ax (by rw[r];exact⟨List.prefix_refl _,f.1.1⟩);rw[r,YR]at i;have u:Pl.load (mn w.a_ w.a_.length++w.bk)=some (w.a_,w.bk):=by
  unfold mn;rw[YR];have D:two ([80,49]++du w.a_.length 2++dk w.a_++w.bk) 2=w.a_.length:=by have:=pK (n:=w.a_.length) (by omega) 0 (dk w.a_++w.bk);unfold two at this⊢;rw[YB,YB];exact this
  unfold Pl.load;rw[D,Yd ⟨by simp[pU],rfl,E⟩];have:([80,49]++du w.a_.length 2++dk w.a_++w.bk).drop 4=dk w.a_++w.bk:=by rw[YB,YB];rfl
  rw[this];exact JZ _ _ m
 have p:∀a (o:a<d.length),xJ w.a_ (pA d) d[a] (0+a):=λa o=>by rw[YO];exact y a o o
 refine⟨w.a_,w.bk,u,⟨_,u,?_⟩,λef X G=>?_⟩
 ·have:=Ii (by omega) d 0 p [] [];rw[ZR,Y2]at this;simp only;rw[i];exact this ((BG (by simp)).2 ⟨λq z=>(by cases z),rfl,λ_ _=>rfl⟩)
 refine IB (by omega) d 0 _ X _ [] p G ?_;rw[Y2,<-i];exact (Pl.Ends.start w.bk w.a_ ef X)
def v_(D:fv)(a:fy)(x:cj):Bool:=x.ph||((Pl.look a x.name).isNone||x.aH.any λn=>D.contains n||h_ a x.name n)
def oH(b:ga):List cj->fv->Wd->Wd
 |[],_,X=>X
 |x::a,D,X=>if X.exit=0 then(if v_ D X.aW x then oH b a (x.name::D) (gv b x.aI X) else oH b a D X) else X
def og:List cj->Nat->eh
 |[],_=>[]
 |x::d,a=>(x.name,a)::og d (a+1)
theorem F4(k:aj)(v:Nat):∀(fl:eh),(∀x∈fl,x.1≠k)->da fl k v=fl++[(k,v)]
 |[],_=>rfl|x::a,h=>by have:=h x (Yq ..);rw[da,Yb (by simpa using this),F4 k v a λy d=>h y (Yp _ d)];rfl
theorem F9:∀(d:List cj) (a:Nat) (x:aj×Nat),x∈og d a->x.1∈d.map (·.name)
 |[],_,_,h=>by cases h
 |y::f,a,x,h=>by
  obtain q|q:=YD.1 h
  ·rw[q];simp
  rw[YE];exact Yp _ (F9 f (a+1) x q)
theorem Fa(x:cj):∀(f:List cj) (a:Nat),og (f++[x]) a=og f a++[(x.name,a+f.length)]
 |[],a=>by simp[og]
 |y::d,a=>by rw[Y3,og,og,Fa x d (a+1),Ya,show a+1+d.length=a+(d.length+1) by omega];rfl
theorem GZ(a:List cj)(h:(a.map (·.name)).Nodup):∀d,d<=a.length->(dm a d).2=og (a.take d) 0
 |0,_=>by simp[dm,og]
 |d+1,n=>by
  have f:d<a.length:=by omega
  rw[ud a d f];simp only;rw[GZ a h d (by omega),Yn f,Fa,YL,mY (by omega),YO];refine F4 _ _ _ λx j e=>?_;have i:((a.take d++[a[d]]).map (·.name)).Nodup:=by rw[<-Yn f];exact h.sublist ((List.take_sublist _ _).map _)
  rw[Yy,ZK]at i;exact i.2.2 x.1 (F9 _ _ x j) a[d].name (by simp) e
theorem J0:∀(i:List cj) (f:Nat) (a:Nat) (h:a<i.length),(i.map (·.name)).Nodup->bP (og i f) i[a].name=f+a
 |[],_,a,h,_=>by cases h
 |x::d,f,0,_,_=>by unfold bP og;simp
 |x::d,f,a+1,h,j=>by
  rw[YE,sT]at j;have m:a<d.length:=by simpa using h
  have n:=J0 d (f+1) a m j.2;have o:(x.name==d[a].name)=false:=by rw[Yi];exact λe=>j.1 (by rw[e];exact YC.2 ⟨d[a],Ym m,rfl⟩)
  unfold bP at*;rw[og];simp only[X7];rw[Zt,o];simp only;rw[n];omega
def Dg(a:List cj):Prop:=∀d (h:d<a.length),∀n∈a[d].aH,∃f,∃i:f<d,(a[f]'(by omega)).name=n
theorem Ip:∀(l:fv),(∀n∈l,I n=fb n)->l.any I=l.any fb
 |[],_=>rfl|x::a,h=>by rw[l9,l9,h x (Yq ..),Ip a λy d=>h y (Yp _ d)]
theorem Cb(c:ga)(f:List cj)(m:(f.map (·.name)).Nodup)(z:Dg f):∀(i a:List cj) (fl:Nat->Bool) (D:fv) (X:Wd),f=a++i->(∀d (h:d<a.length),fl d=D.contains a[d].name)->(∀q,a.length<=q->fl q=false)->(∀n∈D,n∈a.map (·.name))->tV c (pA f) i a.length (fl,X)=oH c i D X
 |[],_,_,_,_,_,_,_,_=>rfl
 |x::i,a,fl,D,X,p,G,v,y=>by
  rw[tV,oH];simp only;by_cases u:X.exit=0
  ·rw[Yd u,Yd u];have M:a.length<f.length:=by rw[p];simp
   have R:f[a.length]=x:=by simp[p]
   have V:qQ (pA f a.length) fl X.aW x=v_ D X.aW x:=by
    unfold qQ v_;congr 2;refine Ip _ λn r=>?_;have⟨d,j,I⟩:=z a.length M n (by rw[R];exact r);have S:d<(f.take (a.length+1)).length:=by rw[YL];omega
    have Q:pA f a.length n=d:=by unfold pA;rw[GZ f m _ (by omega)];have:=J0 (f.take (a.length+1)) 0 d S (m.sublist ((List.take_sublist _ _).map _));rw[adq,I,YO]at this;exact this
    have N:a[d].name=n:=by rw[<-I];congr 1;simp[p,List.getElem_append_left j]
    rw[Q,G d j,N]
   have J:x.name∉a.map (·.name):=λZ=>by rw[p,Yy,ZK]at m;exact m.2.2 _ Z x.name (by simp) rfl
   unfold mX;simp only;rw[V];have H:f=(a++[x])++i:=by rw[p];simp
   cases b:v_ D X.aW x with
   |true=>
    rw[Yd rfl,Yd rfl];have:=Cb c f m z i (a++[x]) (λq=>if q=a.length then true else fl q) (x.name::D) (gv c x.aI X) H (λd j=>?_) (λq E=>?_) (λn r=>?_)
    ·rw[X4]at this;exact this
    ·rw[X4,Yx]at j;by_cases e:d=a.length
     ·subst e;simp
     have o:d<a.length:=by omega
     rw[ZU o,Yb e,G d o];have O:(a[d].name==x.name)=false:=by rw[Yi];exact λq=>J (by rw[<-q];exact YC.2 ⟨_,Ym o,rfl⟩)
     rw[Zk,O];rfl
    ·rw[X4,Yx]at E;rw[Yb (by omega)];exact v q (by omega)
    rw[Yy];obtain e|e:=YD.1 r
    ·rw[e];simp
    exact YK _ (y n e)
   |false=>
    rw[Yb (by simp),Yb (by simp)];have:=Cb c f m z i (a++[x]) fl D X H (λd j=>?_) (λq E=>?_) (λn r=>?_)
    ·rw[X4]at this;exact this
    ·rw[X4,Yx]at j;by_cases e:d=a.length
     ·subst e;rw[v _ ax];have:¬x.name∈D:=λq=>J (y _ q);simp[this]
     have o:d<a.length:=by omega
     rw[ZU o];exact G d o
    ·rw[X4,Yx]at E;exact v q (by omega)
    rw[Yy];exact YK _ (y n r)
  rw[Yb u,Yb u]
def G8(h:ie d=some j)(a:(d.map (·.name)).Nodup)(p:Dg d):∃T c,Pl.load j=some (T,c)/\k_ j/\∀ef X,X.exit=0->gm c T ef X=oH ef d [] X:=by have⟨T,c,u,f,i⟩:=Ut h;refine⟨T,c,u,f,λef X m=>?_⟩;rw[i ef X m];exact Cb ef d a p d [] _ [] X rfl (λv r=>by cases r) (λ_ _=>rfl) (λn o=>by cases o)
def pM(t:Wk)(n:aj):Nat:=(dG t.aT n).getD 0
def na(t:Wk)(b:Nat->Bool)(a:fy)(x:Nr):Bool:=x.ph||((Pl.look a x.name).isNone||x.aH.any λn=>b (pM t n)||h_ a x.name n)
def m_(b:ga)(t:Wk):List (Nat×fv)->(Nat->Bool)->Wd->Wd
 |[],_,X=>X
 |a::d,fl,X=>if X.exit=0 then m_ b t d (λq=>if q=a.1 then na t fl X.aW (cA t a.1).1 else fl q) (if na t fl X.aW (cA t a.1).1=true then gv b a.2 X else X) else X
def An(j:(V.aT.map (·.1.name)).Nodup)(a:k<V.aT.length):dG V.aT (cA V k).1.name=some k:=by
 unfold dG;rw[YM,vh a];refine⟨a,by simp,λd f=>?_⟩;have h:d<V.aT.length:=by omega
 intro e;have i:(V.aT[d]).1.name=(V.aT[k]).1.name:=by simpa using e
 refine(aby.1 j d k (by simpa using h) (by simpa using a) f) ?_;rw[YT,YT];exact i
theorem GD:∀(l:fv),(∀n∈l,I n=fb n)->l.any I=l.any fb
 |[],_=>rfl|x::a,h=>by rw[l9,l9,h x (Yq ..),GD a λy d=>h y (Yp _ d)]
theorem Kc(c:ga)(b:Bk)(M:(V.aT.map (·.1.name)).Nodup):∀(os:List (Nat×fv)) (fl:Nat->Bool) (D:fv) (X:Wd),(∀a∈os,a.1<V.aT.length)->(os.map λa=>(cA V a.1).1.name).Nodup->(∀a∈os,(cA V a.1).1.name∉D)->(∀n d,dG V.aT n=some d->fl d=D.contains n)->(∀a∈os,∀n∈(cA V a.1).1.aH,∃d,dG V.aT n=some d)->
 m_ c V os fl X=oH c (os.map λa=>rR (fa b (cA V a.1).1) a.2) D X
 |[],_,_,_,_,_,_,_,_=>rfl
 |a::r,fl,D,X,G,u,y,x,I=>by
  rw[YE,m_,oH];by_cases p:X.exit=0
  ·rw[Yd p,Yd p];have E:=G a (Yq ..);rw[YE,sT]at u;have R:v_ D X.aW (rR (fa b (cA V a.1).1) a.2)=na V fl X.aW (cA V a.1).1:=by
    unfold v_ na;show((cA V a.1).1.ph||((Pl.look X.aW (cA V a.1).1.name).isNone||(cA V a.1).1.aH.any λn=>D.contains n||h_ X.aW (cA V a.1).1.name n))=_;congr 2;refine GD _ λn S=>?_;have⟨d,f⟩:=I a (Yq ..) n S;have:pM V n=d:=by unfold pM;rw[f];rfl
    rw[this,x n d f]
   rw[R];have J:∀(m:fv) (o:Wd),(∀n,n∈m ↔n∈D\/(na V fl X.aW (cA V a.1).1=true/\n=(cA V a.1).1.name))->m_ c V r (λq=>if q=a.1 then na V fl X.aW (cA V a.1).1 else fl q) o =oH c (r.map λa=>rR (fa b (cA V a.1).1) a.2) m o:=λm o j=>by
    refine Kc c b M r _ m o (λq i=>G q (Yp _ i)) u.2 (λq i e=>?_) (λn d f=>?_) (λq i=>I q (Yp _ i))
    ·rcases(j _).1 e with e|⟨-,e⟩
     ·exact y q (Yp _ i) e
     exact u.1 (e▸YC.2 ⟨q,i,rfl⟩)
    have H:∀l:fv,l.contains n=decide (n∈l):=λl=>by
     rw[ZE,Zy,afD]
    show(if d=a.1 then na V fl X.aW (cA V a.1).1 else fl d)=m.contains n;rw[H];by_cases v:d=a.1
    ·subst v;have⟨Z,O⟩:=wQ f;have z:n=(cA V a.1).1.name:=by rw[vh E];exact O.symm
     rw[Yd rfl];cases h:na V fl X.aW (cA V a.1).1 with
     |true=>exact(Y6 ((j n).2 (.inr ⟨h,z⟩))).symm
     |false=>
      refine(Y9 λe=>?_).symm;rcases(j n).1 e with e|⟨e,-⟩
      ·exact (y a (Yq ..)) (z▸e)
      rw[h]at e;cases e
    rw[Yb v,x n d f,H];have Q:n≠(cA V a.1).1.name:=λe=>by rw[e,An M E]at f;exact v (YW f).symm
    congr 1;rw[eq_iff_iff];constructor
    ·intro e;exact(j n).2 (.inl e)
    intro e;rcases(j n).1 e with e|⟨-,e⟩
    ·exact e
    exact absurd e Q
   cases h:na V fl X.aW (cA V a.1).1 with
   |true=>
    rw[Yd rfl,Yd rfl];have:=J ((cA V a.1).1.name::D) (gv c a.2 X) (λn=>by
     rw[YD,h];constructor
     ·rintro(e|e)
      ·exact .inr ⟨rfl,e⟩
      exact .inl e
     rintro(e|⟨-,e⟩)
     ·exact .inr e
     exact .inl e)
    rw[h]at this;exact this
   |false=>rw[Yb aen,Yb aen];have:=J D X (λn=>by rw[h];simp);rw[h]at this;exact this
  rw[Yb p,Yb p]
def V6(c:ga)(b:Bk)(r:(V.aT.map (·.1.name)).Nodup)(j:∀i∈V.aY,i<V.aT.length)(u:((gF b V).map (·.name)).Nodup)(v:∀y∈gF b V,∀n∈y.aH,∃m∈gF b V,m.name=n)(N:f.length=V.aY.length)(X:Wd):
 m_ c V (V.aY.zip f) (λ_=>false) X=oH c (ma b V f) [] X:=by
 have H:ma b V f=(V.aY.zip f).map λa=>rR (fa b (cA V a.1).1) a.2:=by unfold ma gF;rw[List.zipWith_map_left,List.zip,List.map_zipWith]
 rw[H];have o:∀a∈V.aY.zip f,a.1∈V.aY:=λa d=>(List.of_mem_zip d).1;have E:((V.aY.zip f).map λa=>(cA V a.1).1.name)=(gF b V).map (·.name):=by
  have:((V.aY.zip f).map λa=>(cA V a.1).1.name)=((V.aY.zip f).map Prod.fst).map λi=>(cA V i).1.name:=by rw[k6];rfl
  rw[this,List.map_fst_zip (by omega)];unfold gF;rw[k6];rfl
 refine Kc c b r _ _ _ X (λa d=>j _ (o a d)) (by rw[E];exact u) (λa _ e=>(by cases e)) (λn M _=>rfl) (λa d n J=>?_);have⟨m,z,D⟩:=v (fa b (cA V a.1).1) (YC.2 ⟨a.1,o a d,rfl⟩) n J;obtain⟨h,I,rfl⟩:=YC.1 z;have p:=An r (j h I);have G:(cA V h).1.name=n:=D;rw[G]at p;exact⟨h,p⟩
def MQ(h:W.ownsRow L 206 6 r d.length z)(Z:kx W L d z)(t:L<=W.heap.size)(i:∀x∈d,vX wk x)(P:wk<=80000)(H:0<d.length)(R:d.length<=100):
 γ 67 #[r] W (qy (ie d)):=by
 have:=Kz d i;have:=Zs (wk+100*(wk+2)+1001002) R;obtain⟨_,F⟩|⟨g,b,K,p,_,V,-⟩:=h.2
 ·omega
 have o:=h;rw[p]at o;rw[p];refine Qk d (some (η g 0)) b g 0 W (λ_=>rfl) (uF V) (λy s=>?_) H (by omega) (λx v=>⟨Ye (i x v).aH (by decide),Ye (i x v).aI (by decide)⟩) (by omega);have⟨a,M,C⟩:=kx.at d z Z y s;obtain⟨w,N,e,Q,E,I,k,O,l,D,J,rfl,G,c⟩:=M;refine⟨w,N,e,Q,E,I,k,O,l,D,J,λf u n=>?_,λq=>?_,λq=>?_⟩
 ·have S:f<6:=by
   obtain q|q:=CI f 6
   ·exact q
   rw[Zf (by show 6<=f;exact q)]at n;cases n
  rw[YO];exact gY o (y*6+f) u ((C f S).trans n)
 ·have⟨m,j,A⟩:=G q;exact⟨m,Yo j t,A⟩
 have⟨m,j,_,B⟩:=c q;exact⟨m,j,B⟩
def vu(c:fy)(d b:aj)(W:ay)(e:Ending)(W':ay):Prop:=∃a,ji c d b a/\e=.returned (.tuple #[.string ⟨a.1.toArray⟩,ι (a.2.1:Int),ι (a.2.2:Int)])/\μ W W'
def JM{M:Nat}{fs:fy}(d:∀h g,Pl.look fs h=some g->g.aU.length+1<=M/\g.aU.length<=1073741824)(a:aj):∃k,Ok (cX fs a).2.2 k/\k<=101*M:=by
 unfold cX;split
 ·exact⟨0,DQ,Yh _⟩
 rename_i g f;obtain⟨⟨k,j,i⟩,-,-⟩:=B1 d 3 iO 0 g.aU DQ (d a g f).1 (d a g f).2;refine⟨k,j,?_⟩;have e:iO.inc=0:=rfl;rw[e]at i;omega
def Nn(d:fy)(f c:aj)(a:fY)(A b o M:Nat)(W:ay)(x:0<d.length->a=some ⟨b,o,none⟩)(E:eJ W b o d)(v:b<W.heap.size)(S:d.length<=8388608)(z:dq W)(D:∀J g,Pl.look (d.foldl Pl.bA []) J=some g->g.aU.length+1<=M/\g.aU.length<=1073741824)(I:101*M<=4294967296)(p:(cX (d.foldl Pl.bA []) f).1≠0):
 Calls prog 40 #[.slice a d.length A,σ f,σ c] W λe W'=>vu (d.foldl Pl.bA []) f c W e W':=by
 have r:=z8 d [] a none A b o 0 W.heap.size b 0 0 W x E v S (λq=>(by cases q)) ⟨v,λu h=>(by cases h)⟩ ax (by decide);rw[Yr]at r;have y:∀i j k l,PW i j k l (ς) [] (d.foldl Pl.bA []) 0->μ W i->Calls prog 64 #[π j,σ f] i λe W'=>e=.returned (.tuple #[.pointer none,ι ((cX (d.foldl Pl.bA []) f).1:Int),ι ((cX (d.foldl Pl.bA []) f).2.1:Int)])/\μ W W':=λi j k l n m=>by refine(Eg j f i n (z.aD m) D I).mono ?_;rintro e V⟨R,N,-⟩;exact⟨N p,m.tr R⟩
 have O:ji (d.foldl Pl.bA []) f c ([],(cX (d.foldl Pl.bA []) f).1,(cX (d.foldl Pl.bA []) f).2.1):=.inl ⟨p,rfl⟩;have:(((cX (d.foldl Pl.bA []) f).1:Int) !=0)=true:=by rw[ZI];omega
 generalize (cX (d.foldl Pl.bA []) f).1=s at*;generalize (cX (d.foldl Pl.bA []) f).2.1=w at*;generalize d.foldl Pl.bA []=t at*;go_in;go_wp2_with (first|(go_at_call 61;refine r.mono ?_;rintro e i⟨j,k,l,rfl,n,m,-,-,-⟩)|(go_at_call 64;refine κ (y i j k l n m) λV G=>?_))
 go_ret3
 exact⟨_,O,rfl,G⟩
theorem B5:∀(f:List (aj×Nat)) (k:Nat) (a:fv) (er ln:Nat),j9 dl x f k a (.inl (er,ln))->er≠0
 |[],_,_,_,_,h=>by exact absurd h (λq=>by unfold j9 at q;cases q)
 |c::d,k,a,er,ln,⟨i,_,h⟩=>by
  split at h
  ·rename_i q;cases h;exact q
  split at h
  ·exact B5 d k a er ln h
  exact B5 d _ _ er ln h
theorem BB:∀(d:List cI) (k:Nat) (a:List cj) (er ln:Nat),jB dl d k a (.inl (er,ln))->er≠0
 |[],_,_,_,_,h=>by exact absurd h (λq=>by unfold jB at q;cases q)
 |x::i,k,a,er,ln,⟨G,f,h⟩=>by
  cases G with
  |inl e=>have j:(Sum.inl (er,ln):(Nat×Nat)⊕(Nat×List cj))=.inl e:=h;cases j;exact B5 _ _ _ _ _ f
  |inr m=>exact BB i _ _ er ln h
def Cw(N:aj->Nv)(h:List cI)(W:ay)(e:Ending)(W':ay):Prop:=
 ∃(f:az) (b c:Nat),e=.returned (.tuple #[f,.int .i64 (b:Int),.int .i64 (c:Int)])/\Below W.heap.size W W' /\∃a,jB N h 0 [] a/\
  ((b≠0/\s8 a ([],b,c))\/(b=0/\∃d:jj,s8 a (match d with|none=>([],5,0)|some i=>(i,0,0))/\Calls prog 67 #[f] W' λe j=>e=.returned (qy d)/\Below W'.heap.size W' j))
def Pb{P:Nat}(h:W.ownsRow L 197 5 vv qv.length (qv.flatMap mz))(R:∀q∈qv,lP W q)(Q:bF W i (ja fc))(v:mh fc)(u:dq W)(l:0<qv.length)(s:qv.length<=100)(Z:∀x∈qv.map Vq.nd,DN x)(S:P<=80000)(M:∀x∈qv.map Vq.nd,x.name.length<=P/\x.aH.length<=100/\∀n∈x.aH,n.length<=P):
 Calls prog 66 #[vv,.map (some i)] W λe W'=>Cw (di fc) (qv.map Vq.nd) W e W':=by
 obtain⟨_,f⟩|⟨g,b,t,D,_,J,-⟩:=h.2
 ·omega
 rw[D]at h⊢;have p:=NX (qv.map Vq.nd) (some (η g 0)) b g 0 i fc W (λ_=>rfl) (uF J) (λV N=>QT h R V N) Q v u (by rw[Yk];omega) Z;rw[Yk]at p;refine p.mono ?_;rintro e w⟨E,a,j,d⟩
 match E,a,d with
 | .inl (er,ln),a,d=>exact⟨_,er,ln,d,j,_,a,.inl ⟨BB _ _ _ _ _ a,rfl⟩⟩
 | .inr (k,r),a,d=>
  have⟨z,y⟩:=x8 (P:=P) _ _ _ _ _ a M (λx O=>(by cases O));rw[Yr,Yk,YO]at z;obtain⟨m,o⟩|⟨m,I,c,o,G,H⟩:=d
  ·exact⟨_,5,0,o,j,_,a,.inl ⟨by decide,.inl ⟨m,rfl⟩⟩⟩
  exact⟨I,0,0,o,j,_,a,.inr ⟨rfl,ie r,.inr ⟨m,rfl⟩,MQ G H j.size y S (by omega) (by omega)⟩⟩
theorem Au:∀(n m:Nat) (d a:Nat×cT),ee s fs us n d=some a->ee s fs us (n+m) d=some a
 |0,m,d,a,h=>by
  rw[ee]at h;split at h
  ·rename_i q;cases m with
   |zero=>rw[ee,Yd q];exact h
   |succ m=>rw[YO,ee,Yd q];exact h
  cases h
 |n+1,m,d,a,h=>by
  rw[ee]at h;rw[show n+1+m=(n+m)+1 by omega,ee];split
  ·rename_i q;rw[Yd q]at h;exact h
  rename_i q;rw[Yb q]at h;exact Au n m _ a h
def iy.mx(h:iy s fs us o y)(g:iy s fs us o eL):y=eL:=by have⟨n,d⟩:=h;have⟨m,f⟩:=g;have a:=Au m n o eL f;rw[af0,Au n m o y d]at a;cases a;rfl
theorem Bq:∀(i:List (aj×Nat)) (k:Nat) (d:fv) (a Q:(Nat×Nat)⊕(Nat×fv)),j9 dl x i k d a->j9 dl x i k d Q->a=Q
 |[],k,d,a,Q,h,g=>by have n:a=.inr (k,d):=h;have p:Q=.inr (k,d):=g;rw[n,p]
 |c::j,k,d,a,Q,⟨r,o,h⟩,⟨q,m,g⟩=>by
  obtain rfl:=o.mx m;split at h
  ·rename_i e;rw[Yd e]at g;rw[h,g]
  rename_i e;rw[Yb e]at g;split at h
  ·rename_i f;rw[Yd f]at g;exact Bq j _ _ a Q h g
  rename_i f;rw[Yb f]at g;exact Bq j _ _ a Q h g
theorem G_:∀(f:List cI) (k:Nat) (d:List cj) (a Q:(Nat×Nat)⊕(Nat×List cj)),jB dl f k d a->jB dl f k d Q->a=Q
 |[],k,d,a,Q,h,g=>by have j:a=.inr (k,d):=h;have o:Q=.inr (k,d):=g;rw[j,o]
 |x::n,k,d,a,Q,⟨G,m,h⟩,⟨K,i,g⟩=>by
  obtain rfl:=Bq _ _ _ _ _ m i;cases G with
  |inl e=>exact(show a=.inl e from h).trans (show Q=.inl e from g).symm
  |inr p=>exact G_ n _ _ a Q h g
def O6(h:s8 H p)(g:s8 H eR):p=eR:=by
 cases H with
 |inl e=>exact(show p=_ from h).trans (show eR=_ from g).symm
 |inr j=>
  obtain⟨i,f⟩|⟨i,f⟩:=h
  ·obtain⟨d,a⟩|⟨d,a⟩:=g
   ·rw[f,a]
   omega
  obtain⟨d,a⟩|⟨d,a⟩:=g
  ·omega
  rw[f,a]
def Py(h:uX s fs j p)(k:uX s fs j eR):p=eR:=by
 obtain⟨n,D⟩|⟨n,D,E⟩|⟨n,D,x,E,G⟩:=h
 ·obtain⟨a,i⟩|⟨a,i,m⟩|⟨a,i,y,m,r⟩:=k
  ·rw[D,i]
  ·exact absurd n a
  exact absurd n a
 ·obtain⟨a,i⟩|⟨a,i,m⟩|⟨a,i,y,m,r⟩:=k
  ·exact absurd a n
  ·rw[E,m]
  omega
 obtain⟨a,i⟩|⟨a,i,m⟩|⟨a,i,y,m,r⟩:=k
 ·exact absurd a n
 ·omega
 obtain rfl:=E.mx m;obtain⟨o,u⟩|⟨o,u,v⟩|⟨o,u,I,v,H⟩:=G
 ·obtain⟨d,f⟩|⟨d,f,g⟩|⟨d,f,Q,g,z⟩:=r
  ·rw[u,f]
  ·exact absurd d o
  exact absurd d o
 ·obtain⟨d,f⟩|⟨d,f,g⟩|⟨d,f,Q,g,z⟩:=r
  ·exact absurd o d
  ·rw[v,g]
  omega
 obtain⟨d,f⟩|⟨d,f,g⟩|⟨d,f,Q,g,z⟩:=r
 ·exact absurd o d
 ·omega
 obtain rfl:=G_ _ _ _ _ _ v g;exact O6 H z
def ji.mx(h:ji fs j D p)(g:ji fs j D eR):p=eR:=by
 obtain⟨i,f⟩|⟨i,f⟩:=h
 ·obtain⟨a,d⟩|⟨a,d⟩:=g
  ·rw[f,d]
  exact absurd a i
 obtain⟨a,d⟩|⟨a,d⟩:=g
 ·exact absurd i a
 exact Py f d
def ji.vG(h:ji fs j D p)(a:p.2.1=0):p.2.2=0/\∃q k v,iy (cX fs j).2.2 fs (cJ (cX fs j).2.2 fs (cX fs j).2.2.bJ) (dW (cX fs j).2.2 fs (cJ (cX fs j).2.2 fs (cX fs j).2.2.bJ) gU (gK (cX fs j).2.2 D)) q/\q.1=0/\q.2.cL.length<=100/\(gK (cX fs j).2.2 D).length<=2000/\jB (di (cX fs j).2.2.aX) q.2.cL 0 [] (.inr (k,v))/\k<=500/\ie v=some p.1:=by
 obtain⟨z,H⟩|⟨z,⟨y,m⟩|⟨y,m,r⟩|⟨y,m,x,r,G⟩⟩:=h
 ·rw[H]at a;exact absurd a z
 ·rw[m]at a;cases a
 ·rw[r]at a;cases a
 obtain⟨n,f⟩|⟨n,f,i⟩|⟨n,f,J,i,E⟩:=G
 ·rw[f]at a;exact absurd a n
 ·rw[i]at a;cases a
 cases J with
 |inl e=>have I:p=([],e.1,e.2):=E;rw[I]at a;exact absurd a (BB _ _ _ _ _ i)
 |inr u=>
  obtain⟨b,d⟩|⟨b,d⟩:=E
  ·rw[d]at a;cases a
  cases o:ie u.2 with
  |none=>rw[o]at d;rw[d]at a;cases a
  |some t=>rw[o]at d;refine⟨by rw[d],x,u.1,u.2,r,n,f,m,i,b,by rw[o,d]⟩
def Vg{P:Nat}(g:Ok s k)(p:2000<=P)(n:∀f∈fs,f.aL.length<=P)(o:j.length<=2000):∀y∈qM s fs j,y.length<=P:=λy m=>by
 obtain q|q:=YD.1 m
 ·rw[q];omega
 obtain q|q:=Yv.1 q
 ·have⟨z,a,h⟩:=Ft.1 q;obtain⟨d,i,rfl⟩:=YC.1 a;have:=(g.rs d i).nw y h;omega
 obtain q|q:=Yv.1 q
 ·have⟨z,a,h⟩:=Ft.1 q;obtain⟨d,i,rfl⟩:=YC.1 a;have:=(g.rs d i).tw y h;omega
 obtain⟨f,a,rfl⟩:=YC.1 q;exact n f a
def sD(s:St)(b:fy)(g:aj)(P:Nat):Prop:=g.length<=2000->∀a,iy s b (cJ s b s.bJ) (dW s b (cJ s b s.bJ) gU g) a->a.1=0->a.2.cL.length<=100->∀x∈a.2.cL,x.name.length<=P
def Kw(s:St)(c:fy)(g:aj)(i:Nat)(W:ay)(e:Ending)(W':ay):Prop:=
 ∃(a:az) (b:Nat),e=.returned (.tuple #[a,.int .i64 (b:Int)])/\μ W W' /\
  ((b≠0/\uX s c g ([],b,0))\/(b=0/\∃d,(∀h f,jB (di s.aX) d 0 [] h->s8 h f->uX s c g f)/\Calls prog 66 #[a,.map (some i)] W' λe j=>Cw (di s.aX) d W' e j))
def Pz{l:dr}{B:Int}(v:aj)(k P:Nat)(z:BM W c rb s vp l)(L:PW W c.bx bf bi ve ef fs B)(I:dq W)(D:Ok s k)(g:k<=2000000000)(R:mR s)(H:oD s)(w:fs.length<=4000000000)(F:P<=80000)(O:∀f∈fs,f.aL.length<=8388608)(Y:sD s fs (gK s v) P):
 Calls prog 65 #[π c.bb,π c.bx,σ v] W λe W'=>Kw s fs (gK s v) c.nm W e W':=by
 have M:(gK s v).length<=2000->vW s fs (cJ s fs s.bJ) (qM s fs (gK s v)) 256002000:=λh=>UN D R z.ol z.pl w (λf K=>Ye (O f K) (by omega)) (by omega);refine(Qg v k (λ_ Q=>T6 (M Q) (Yq ..)) z L I D).mono ?_;rintro e w2⟨p,⟨r,d⟩|⟨r,d,j⟩|⟨r,d,u,j,⟨i,o⟩|⟨i,o,G⟩|⟨i,o,vv,qv,G,q7,q8,E⟩⟩⟩
 ·exact⟨_,8,d,p,.inl ⟨by decide,.inl ⟨r,rfl⟩⟩⟩
 ·exact⟨_,5,j,p,.inl ⟨by decide,.inr (.inl ⟨r,d,rfl⟩)⟩⟩
 ·exact⟨_,u.1,o,p,.inl ⟨i,.inr (.inr ⟨r,d,u,j,.inl ⟨i,rfl⟩⟩)⟩⟩
 ·exact⟨_,5,G,p,.inl ⟨by decide,.inr (.inr ⟨r,d,u,j,.inr (.inl ⟨i,o,rfl⟩)⟩)⟩⟩
 have J:=(wY j i).1;have N:=Y d u j i o;have C:=Vg D (P:=8388608) (by omega) O d;have:=T3 j i;have:qv.length=u.2.cL.length:=by rw[<-E,Yk]
 have A:∀x∈cJ s fs s.bJ,x.1<s.aG.length:=λx m=>by unfold cJ at m;obtain⟨T,U,rfl⟩:=YC.1 m;exact z.pl T (Z2.1 U).1
 refine⟨vv,0,G,p,.inr ⟨rfl,qv.map Vq.nd,λV t Z a2=> .inr (.inr ⟨r,d,u,j,.inr (.inr ⟨i,o,V,by rw[<-E];exact Z,a2⟩)⟩),?_⟩⟩;refine Pb (P:=P) q7 q8 (z.aD p).aX D.mI (I.aD p) (by omega) (by omega) (λx m=>?_) F (λx m=>?_)
 ·rw[E]at m;exact RH D g H z.ol A 8388608 ax C (SQ (M d) (Yq ..) j i) J o m
 rw[E]at m;have⟨S,q⟩:=uj H J o m;refine⟨N x m,S,λn X=>?_⟩;have⟨y,a,b⟩:=q n X;rw[<-b];exact N y a
theorem EB(c:UInt8):∀(f:Nat) (s:aj),Lib.countFrom [c] f s<=s.count c
 |0,_=>Yh _
 |f+1,s=>by
  rw[Lib.countFrom];split
  ·exact Yh _
  rename_i h;obtain⟨j,_⟩|⟨d,j,_,a,_⟩:=Lib.index_spec s [c]
  ·rw[j]at h;exact absurd rfl h
  have i:=EB c f (s.drop ((Lib.index s [c]).toNat+[c].length));rw[j]at i⊢;simp only[acV,Ya,Yr,YO]at i⊢;have o:∃t,s.drop d=c::t:=by
   unfold Lib.occAt at a;cases n:s.drop d with
   |nil=>rw[n]at a;cases a
   |cons x t=>rw[n]at a;simp only[List.isPrefixOf,X',Zj]at a;exact⟨t,by rw[a]⟩
  have⟨t,m⟩:=o;have r:s.drop (d+1)=t:=by rw[<-z6,m];rfl
  have p:s.count c=(s.take d).count c+(s.drop d).count c:=by rw[<-aey,C0]
  rw[m,afR]at p;rw[r]at i⊢;omega
theorem EJ(a d:aj):∀(k:Nat) (s:aj),(Lib.replaceK a d k s).length<=s.length+k*d.length
 |0,s=>by rw[Lib.replaceK];omega
 |k+1,s=>by
  rw[Lib.replaceK];split
  ·omega
  have:=EJ a d k (s.drop ((Lib.index s a).toNat+a.length));have:(s.drop ((Lib.index s a).toNat+a.length)).length+(s.take (Lib.index s a).toNat).length<=s.length:=by rw[Zu,YL];omega
  rw[X4,X4,l5];omega
def Ss{stem:aj}(h:jz j=false):(eb j stem).length<=j.length+stem.length:=by
 unfold jz Lib.countByte at h;have:=acQ h;unfold eb Lib.replaceAll Lib.replace;split
 ·omega
 have a:Lib.replaceNum j [37] (-1)<=1:=by
  unfold Lib.replaceNum;rw[Yd (.inl (by decide))];exact Ye (EB 37 _ j) (by omega)
 have:=EJ [37] stem (Lib.replaceNum j [37] (-1)) j;have:=Zs stem.length a;omega
structure pr(s:St):Prop where
 jN:∀r∈s.aG,∀n∈r.nd,jz n=false
 ol:∀name,∀i∈s.of name,i<s.aG.length
 pl:∀i∈s.bJ,i<s.aG.length
theorem Iv(d:Nat)(n:aj):∀(i:fv) (s:St),∀a∈(i.foldl (d' d) s).of n,a∈s.of n\/a=d
 |[],s,a,h=> .inl h
 |t::j,s,a,h=>by
  rw[YP]at h;obtain q|q:=Iv d n j (d' d s t) a h
  ·have f:a∈od s.of t (s.of t++[d]) n:=q;unfold od at f;split at f
   ·rename_i e;obtain z|z:=Yv.1 f
    ·exact .inl (by first|(rw [e];exact z)|(rw [<-e];exact z))
    exact .inr (Yc.1 z)
   exact .inl f
  exact .inr q
def pr.add{s:St}(h:pr s)(i j:fv)(v:∀n∈j,jz n=false):pr (bA s i j).2:=by
 have r:∀m∈s.aG++[(⟨i,bR j [],[]⟩:Rl)],∀n∈m.nd,jz n=false:=λm u n o=>by
  obtain q|q:=Yv.1 u
  ·exact h.jN m q n o
  rw[Yc.1 q]at o;rcases(oK j []).2 n o with z|z
  ·exact v n z
  cases z
 unfold bA;split
 ·exact⟨h.jN,h.ol,h.pl⟩
 split
 ·refine⟨r,λb d a=>?_,λd a=>?_⟩
  ·have:=h.ol b d a;simp only[X4,Ya,Yr];omega
  obtain q|q:=Yv.1 a
  ·have:=h.pl d q;simp only[X4,Ya,Yr];omega
  rw[Yc.1 q];simp
 have c:∀f:aj,pr (i.foldl (d' s.aG.length) {s with aG:=s.aG++[⟨i,bR j [],[]⟩],first:=f}):=λf=>by
  have⟨_,p,x,_⟩:=qh s.aG.length i {s with aG:=s.aG++[⟨i,bR j [],[]⟩],first:=f};refine⟨by rw[p];exact r,λb d a=>?_,λd a=>?_⟩
  ·rw[p];simp only[X4,Ya,Yr];obtain q|q:=Iv _ b i _ d a
   ·have:=h.ol b d q;omega
   omega
  rw[p];rw[x]at a;have:=h.pl d a;simp only[X4,Ya,Yr];omega
 unfold mD;simp only;split
 ·exact c _
 exact c s.first
def Tv:qu pr where
 assign s l h:=by unfold iF;split<;>exact⟨h.jN,h.ol,h.pl⟩
 uE s op l h:=by
  unfold gH;split
  ·exact h
  split
  ·exact h
  rename_i u _ o r;split
  ·exact h
  refine⟨λm p n d=>?_,λc j f=>?_,λj f=>?_⟩
  ·obtain q|q:=HJ p
   ·exact h.jN m q n d
   rw[q]at d;exact h.jN o (Z5 r) n d
  ·have:=h.ol c j f;simpa using this
  have:=h.pl j f;simpa using this
 kf s l h:=by
  unfold gJ;split
  ·exact h
  split
  ·exact h
  split
  ·exact h
  rename_i i;split
  ·exact h
  refine pr.add (s:={s with n:=s.n+1}) ⟨h.jN,h.ol,h.pl⟩ _ _ λn d=>?_;unfold lJ at i;split at i
  ·exact absurd rfl i
  rename_i q;have:¬(bQ (dK s.aX l.right).bK).any jz=true:=λe=>q (.inr (.inr e));rw[E3]at this;have:=pe.1 this n d;simpa using this
 tR s a b h:=⟨h.jN,h.ol,h.pl⟩
def S9:pr (cX fs j).2.2:=Aq Tv ⟨λ_ f=>(by cases f),λ_ _ a=>(by cases a),λ_ a=>(by cases a)⟩ j
section
def Sa(p:Ok s k)(O:mR s)(r:pr s)(i:D∈(eM s fs (cJ s fs s.bJ) j).1.aH):D.length<=2000\/((∃f∈fs,f.aL=D)/\D.length<=j.length+2000):=by
 have H:∀z∈fX s (s.of j),z.length<=2000:=λz d=>by
  unfold fX at d;split at d
  ·rename_i h;have b:=r.ol j;generalize s.of j=c at*
   match c,h,b,d with
   |[v],_,b,d=>exact(p.rs _ (rq (b v (Yq ..)))).nw z d
  rcases(oK _ _).2 z d with q|q
  ·obtain⟨u,h,y⟩:=Ft.1 q;obtain⟨v,o,rfl⟩:=YC.1 h;exact(p.rs _ (rq (r.ol j v o))).nw z y
  cases q
 unfold eM at i;split at i
 ·split at i
  ·rename_i v E e;rcases(oK _ _).2 D i with q|q
   ·rcases Yv.1 q with q|q
    ·obtain⟨n,G,rfl⟩:=YC.1 q;obtain⟨x,h,y,o⟩:=BN e;obtain⟨-,g⟩:=yD e;unfold cJ at h;obtain⟨Q,R,rfl⟩:=YC.1 h;simp only at y o;subst y;have J:=r.pl Q (Z2.1 R).1;have V:=(p.rs _ (rq J)).nw n G;by_cases I:dc n=true
     ·have a:=uu.1 o n (Z2.2 ⟨G,I⟩);have l:=Ss (stem:=E) (r.jN _ (rq J) n G);unfold gI at a;rw[afw]at a;rcases a with a|a
      ·refine .inr ⟨?_,by omega⟩;cases m:Pl.look fs (eb n E) with
       |none=>rw[m]at a;cases a
       |some f=>unfold Pl.look at m;exact⟨f,YV m,by simpa using afx m⟩
      unfold jO at a;have M:=q9 a;obtain⟨N,S,Z⟩:=O.tg _ (λe=>by rw[e]at M;cases M);exact .inl ((p.rs N S).tw _ Z)
     rw[sJ (by simpa using I)];exact .inl V
    exact .inl (H D q)
   cases q
  exact .inl (H D i)
 exact .inl (H D i)
def th(a:fy)(y:aj):Prop:=∀T,2000<=T->T<y.length->∃f∈a,T<f.aL.length/\f.aL.length<=T+2000
def OU(m:Ok s k)(h:mR s)(a:pr s)(y:th fs j)(d:D∈(eM s fs (cJ s fs s.bJ) j).1.aH):th fs D:=λT n o=>by
 by_cases i:T<j.length
 ·exact y T n i
 obtain q|⟨⟨f,c,b⟩,e⟩:=Sa m h a d
 ·omega
 exact⟨f,c,by rw[b];omega,by rw[b];omega⟩
structure vF(s:St)(fs:fy)(us:List (Nat×fv))(t:cT):Prop where
 op:∀x∈t.opn,x.1=(eM s fs us x.1.name).1/\th fs x.1.name
 ov:∀x∈t.cL,th fs x.name
def IU(h:vF s fs us ds)(a:th fs j):vF s fs us (dW s fs us ds j).2:=by
 unfold dW;split
 ·exact h
 split
 ·exact h
 split
 ·exact h
 refine⟨λx d=>?_,h.ov⟩;obtain q|q:=Yv.1 d
 ·exact h.op x q
 rw[Yc.1 q];simp only;rw[wJ];exact⟨rfl,a⟩
def UJ(p:Ok s k)(o:mR s)(m:pr s)(h:vF s fs (cJ s fs s.bJ) ds)(f:ds.opn.getLast?=some dT):vF s fs (cJ s fs s.bJ) (gd s fs (cJ s fs s.bJ) ds).2:=by
 have d:=List.mem_of_getLast? f;have j:∀y∈ds.opn.dropLast,y∈ds.opn:=λy a=>List.dropLast_subset _ a;unfold gd;rw[f];simp only;split
 ·unfold nA;rw[f];refine⟨λy a=>h.op y (j y a),λy a=>?_⟩;simp only at a;split at a
  ·obtain q|q:=Yv.1 a
   ·exact h.ov y q
   rw[Yc.1 q];exact(h.op dT d).2
  exact h.ov y a
 rename_i z;have u:vF s fs (cJ s fs s.bJ) {ds with opn:=ds.opn.dropLast++[(dT.1,dT.2+1)]}:=by
  refine⟨λy a=>?_,h.ov⟩;obtain q|q:=Yv.1 a
  ·exact h.op y (j y q)
  rw[Yc.1 q];exact h.op dT d
 refine IU u ?_;by_cases i:dT.2<dT.1.aH.length
 ·have r:dT.1.aH.getD dT.2 []∈dT.1.aH:=by
   rw[Yf,X9 i];exact Ym i
  have v:dT.1.aH.getD dT.2 []∈(eM s fs (cJ s fs s.bJ) dT.1.name).1.aH:=by rw[<-((h.op dT d).1)];exact r
  exact OU p o m (h.op dT d).2 v
 rw[Yf,Zf (by omega)];exact λT _ n=>absurd n (Nat.not_lt_zero _)
end
def mg(B:Nat):fy->Nat
 |[]=>0
 |f::a=>(if f.aL.length<=B then f.aL.length else 0)+mg B a
def lM:fy->Nat
 |[]=>0
 |f::a=>f.aL.length+lM a
theorem It(B:Nat):∀fs,mg B fs<=lM fs
 |[]=>X0 _
 |f::a=>by have:=It B a;rw[mg,lM];split<;>omega
theorem F7(B:Nat):∀fs,mg B fs<=mg (B+2000) fs
 |[]=>X0 _
 |f::a=>by have:=F7 B a;rw[mg,mg];split<;>split<;>omega
theorem H7(B:Nat):∀fs:fy,(∃f∈fs,B<f.aL.length/\f.aL.length<=B+2000)->mg B fs+(B+1)<=mg (B+2000) fs
 |[],h=>by have⟨_,h,_⟩:=h;cases h
 |f::a,⟨g,j,i,d⟩=>by
  rw[mg,mg];obtain q|q:=YD.1 j
  ·have:=F7 B a;subst q;rw[Yb (by omega),Yd d];omega
  have:=H7 B a ⟨g,q,i,d⟩;split<;>split<;>omega
theorem GH(h:th fs j):∀n:Nat,2000*n<j.length->1000*(n*n)+1001*n<=mg (2000*(n+1)) fs
 |0,_=>by omega
 |n+1,a=>by
  have d:=GH h n (by omega);have:=H7 (2000*(n+1)) fs (h (2000*(n+1)) (by omega) a);rw[show 2000*(n+1)+2000=2000*(n+1+1) by omega]at this;have e:(n+1)*(n+1)=n*n+2*n+1:=by rw[af2,afJ,L2];omega
  rw[e];generalize mg (2000*(n+1)) fs=X at d this;generalize mg (2000*(n+1+1)) fs=Y at this⊢;generalize n*n=Z at*;omega
def U4(v:Ok s k)(p:mR s)(f:pr s)(E:lM fs<=1048576)(g:aj):sD s fs g 64000:=λG i o r _ x u=>by
 have z:th fs g:=λT a b=>by omega
 have⟨n,d⟩:=o;have:=wF (vF s fs (cJ s fs s.bJ)) (λt x h j _=>UJ v p f h j) n _ i d (λ_=>IU ⟨λ_ h=>(by cases h),λ_ h=>(by cases h)⟩ z) r;by_cases H:64000<x.name.length
 ·obtain⟨n,d⟩:∃n:Nat,n=32:=⟨32,rfl⟩;have y:=GH (this.ov x u) n (by omega);have D:=It (2000*(n+1)) fs;generalize mg (2000*(n+1)) fs=X at y D;have I:n*n=1024:=by rw[d]
  omega
 omega
def wt(s:aj):Nat:=2+s.length
def lC(l:fv):Nat:=(l.map wt).sum
def OV:lC (a++U)=lC a+lC U:=by unfold lC;rw[Yy,acB]
theorem GU:∀l:fv,(dk l).length=lC l
 |[]=>rfl|s::a=>by rw[AI,GU a];unfold lC wt;simp
theorem GN:∀{l:fv},j∈l->lC l=wt j+lC (l.erase j)
 |[],h=>by cases h
 |y::a,h=>by
  by_cases e:y=j
  ·subst e;rw[afO];unfold lC;simp
  rw[afP (by simpa using e)];have:=GN ((YD.1 h).resolve_left (λq=>e q.symm));unfold lC at*;simp only[YE,ri];omega
theorem JB:∀(a b:fv),a.Nodup->(∀x∈a,x∈b)->lC a<=lC b
 |[],b,_,_=>by unfold lC;simp
 |x::i,b,d,h=>by rw[sT]at d;have:=JB i (b.erase x) d.2 λy f=>(acf (λ(e:y=x)=>d.1 (e▸f))).2 (h y (Yp _ f));have e:=GN (h x (Yq ..));unfold lC at*;simp only[YE,ri];omega
theorem Cv(P:Nat):∀l:fv,(∀x∈l,x.length<=P)->lC l<=l.length*(P+2)
 |[],_=>by unfold lC;simp
 |x::a,h=>by have:=Cv P a λy d=>h y (Yp _ d);have:=h x (Yq ..);unfold lC wt at*;simp only[YE,ri,Ya,l5];omega
structure mM(A:fv)(q:Wr):Prop where
 nd:q.a_.Nodup
 sE:∀x∈q.a_,x∈A
def mM.add(h:mM A em)(op:Nat)(os:gb):mM A (cy em op os):=⟨by rw[iD];exact h.nd,by rw[iD];exact h.sE⟩
def mM.dd(h:mM A em)(m:j∈A):mM A (em.dd j):=by
 unfold Wr.dd;cases d:em.a_.findIdx? (λx=>x==j) with
 |some p=>exact h
 |none=>
  have n:j∉em.a_:=λf=>by have:=Zg.1 d j f;simp at this
  refine⟨?_,λx o=>?_⟩
  ·show(em.a_++[j]).Nodup;rw[ZK];exact⟨h.nd,by simp,λa i b q e=>n (by rw[Yc.1 q]at e;rw[<-e];exact i)⟩
  obtain e|e:=Yv.1 o
  ·exact h.sE x e
  rw[Yc.1 e];exact m
theorem Fu(b:eh)(a:Nat):∀(d:fv) (q:Wr),mM A q->(∀n∈d,n∈A)->mM A (d.foldl (gu b a) q)
 |[],_,h,_=>h
 |n::i,q,h,f=>Fu b a i _ (by unfold gu;exact((((h.add _ _).add _ _).dd (f n (Yq ..))).add _ _).add _ _) λy j=>f y (Yp _ j)
theorem Fq:∀(a:fv) (q:Wr),mM A q->(∀c∈a,c∈A)->mM A (a.foldl gQ q)
 |[],_,h,_=>h
 |c::f,q,h,d=>Fq f _ (by unfold gQ;exact(h.dd (d c (Yq ..))).add _ _) λy i=>d y (Yp _ i)
theorem JR{A:fv}(d:List cj)(j:∀x∈d,x.name∈A/\(∀n∈x.aH,n∈A)/\∀c∈x.aI,c∈A):∀a,a<=d.length->mM A (dm d a).1
 |0,_=>⟨Z',λx u=>by cases u⟩
 |a+1,v=>by
  have h:a<d.length:=by omega
  have f:=JR d j a (by omega);have⟨p,o,r⟩:=j d[a] (Ym h);rw[ud d a h];simp only;have m:mM A (iR (da (dm d a).2 d[a].name a) (dm d a).1 d[a].ph d[a].name d[a].aH):=by
   unfold iR;split
   ·exact f.add _ _
   exact Fu _ _ _ _ ((f.dd p).add _ _) o
  have i:mM A (gy (cy (iR (da (dm d a).2 d[a].name a) (dm d a).1 d[a].ph d[a].name d[a].aH) 6 []) d[a].aI a):=by unfold gy;exact(Fq _ _ (m.add _ _) r).add _ _
  exact⟨i.nd,i.sE⟩
def kH:List cj->Nat
 |[]=>0
 |x::a=>x.aI.length+kH a
def MF{a b:List cj}:kH (a++b)=kH a+kH b:=by
 induction a with
 |nil=>simp[kH]
 |cons x f d=>rw[Y3,kH,kH,d];omega
def XD(F K:aj->Nat)(x:cj)(i:Nat):(kL F K x i).length<=8+9*x.aH.length+3*x.aI.length:=by
 have o:∀d:fv,(d.flatMap (vw F K x.name)).length=9*d.length:=λd=>by
  induction d with
  |nil=>rfl|cons n f h=>rw[YA,X4,h,Ya];show 9+_=_;omega
 have j:∀a:fv,(iZ K a).length=3*a.length:=λa=>by
  induction a with
  |nil=>rfl
  |cons c f h=>
   have e:iZ K (c::f)=pT (K c)++iZ K f:=by unfold iZ;rw[YA]
   rw[e,X4,h,Ya];show 3+_=_;omega
 unfold kL pd kD;rw[X4,X4,X4,j];have r:(mP i).length=2:=rfl;have m:∀n,(eP n).length=3:=λ_=>rfl;rw[r,m];split
 ·simp only[Ya,Yr];omega
 rw[X4,o];have p:(se (K x.name)).length=3:=rfl;rw[p];omega
theorem IS(F:Nat->aj->Nat)(K:aj->Nat):∀(d:List cj) (a:Nat),(∀x∈d,x.aH.length<=100)->(mj F K d a).length<=908*d.length+3*kH d
 |[],_,_=>X0 _
 |x::f,a,h=>by have:=IS F K f (a+1) λy i=>h y (Yp _ i);have:=XD (F a) K x a;have:=h x (Yq ..);rw[mj,X4,kH,Ya];omega
theorem A8:∀a:List cj,(a.flatMap (·.aI)).length=kH a
 |[]=>rfl|x::d=>by rw[YA,X4,A8 d,kH]
def Tj(h:ie d=some j)(E:d.length<=100)(I:kH d<=500)(m:∀x∈d,vX 64000 x)(H:∀x∈d,∀n∈x.aH,∃y∈d,y.name=n):j.length<=8388608:=by
 have o:=JR (A:=d.map (·.name)++d.flatMap (·.aI)) d (λx a=>⟨YK _ (YC.2 ⟨x,a,rfl⟩),λn z=>(by have⟨y,M,G⟩:=H x a n z;exact YK _ (YC.2 ⟨y,M,G⟩)),λc p=>YQ _ (x'.2 ⟨x,a,p⟩)⟩) d.length ax;unfold ie oW at h;generalize r:(dm d d.length).1=w at h o;split at h
 ·cases h
 rename_i v;cases h;rw[E3,Y_]at v;obtain⟨f,-⟩:=v;unfold nG at f;rw[Y_,Y_]at f;obtain⟨u,-⟩:=Ao (T:=w.a_) d d.length ax (by rw[r];exact⟨List.prefix_refl _,f.1.1⟩);rw[r,YR]at u;have:=IS (pA d) (fG w.a_) d 0 λx a=>(m x a).aH;have J:=JB _ _ o.nd o.sE;rw[OV]at J;have O:=Cv 64000 (d.map (·.name)) λy i=>by obtain⟨x,a,rfl⟩:=YC.1 i;exact(m x a).name
 have D:=Cv 2000 (d.flatMap (·.aI)) λy i=>by have⟨x,a,p⟩:=x'.1 i;exact(m x a).cw y p
 rw[Yk]at O;rw[A8]at D;unfold mn;rw[YR,X4,X4,X4,GU,u];have N:(du w.a_.length 2).length=2:=rfl;rw[N];simp only[Ya,Yr];omega
def Q_(d:fy)(i t:aj)(a:fY)(dx b R M P:Nat)(W:ay)(ha:0<d.length->a=some ⟨b,R,none⟩)(hr:eJ W b R d)(aa:b<W.heap.size)(ao:d.length<=8388608)(U:dq W)(X:∀H g,Pl.look (d.foldl Pl.bA []) H=some g->g.aU.length+1<=M/\g.aU.length<=1073741824)(hM:101*M<=2000000000)(al:(d.foldl Pl.bA []).length<=4000000000)(an:P<=80000)(ai:∀f∈d.foldl Pl.bA [],f.aL.length<=8388608)(ae:sD (cX (d.foldl Pl.bA []) i).2.2 (d.foldl Pl.bA []) (gK (cX (d.foldl Pl.bA []) i).2.2 t) P)(K:(cX (d.foldl Pl.bA []) i).1=0):
 Calls prog 40 #[.slice a d.length dx,σ i,σ t] W λe W'=>vu (d.foldl Pl.bA []) i t W e W':=by
 have C1:=z8 d [] a none dx b R 0 W.heap.size b 0 0 W ha hr aa ao (λq=>(by cases q)) ⟨aa,λaq h=>(by cases h)⟩ ax (by decide);rw[Yr]at C1;have⟨k,ac,hk⟩:=JM X i;have HT:∀j,uX (cX (d.foldl Pl.bA []) i).2.2 (d.foldl Pl.bA []) (gK (cX (d.foldl Pl.bA []) i).2.2 t) j->ji (d.foldl Pl.bA []) i t j:=λj h=> .inr ⟨K,h⟩;have C2:∀o m u A,PW o m u A (ς) [] (d.foldl Pl.bA []) 0->μ W o->Calls prog 64 #[π m,σ i] o λe N=>∃bb E,e=.returned (.tuple #[π bb,ι 0,ι 0])/\
  Calls prog 65 #[π bb,π m,σ t] N λe p=>Kw (cX (d.foldl Pl.bA []) i).2.2 (d.foldl Pl.bA []) (gK (cX (d.foldl Pl.bA []) i).2.2 t) E N e p/\p.χ bb 0=some (.map (some E))/\μ W p:=λo m u A D n=>by
  refine(Eg m i o D (U.aD n) X (by omega)).mono ?_;rintro e N⟨J,-,Z⟩;obtain⟨c,G,rb,e1,e2,e3,-⟩:=Z K;have⟨vp,l,Y⟩:=bE.bm e3;refine⟨c.bb,c.nm,e2,?_⟩;have F:=D.aD J;rw[<-e1]at F⊢;refine(Pz t k P Y F ((U.aD n).aD J) ac (by omega) (Jk (d.foldl Pl.bA []) i) (BF (d.foldl Pl.bA []) i) al an ai ae).mono ?_;rintro e p hq;have am:=hq;have⟨_,_,_,L,_⟩:=hq;exact⟨am,aF.cell? (i:=0) (Y.aD L).bW rfl,(n.tr J).trans (L.mono (n.tr J).size)⟩
 generalize (cX (d.foldl Pl.bA []) i).2.2=s at*;generalize gK s t=g at*;generalize d.foldl Pl.bA []=w at*;go_in;go_wp2_with (first
  |(go_at_call 61;refine C1.mono ?_;rintro e o⟨m,u,A,rfl,D,n,-,-,-⟩)|(go_at_call 64;refine (C2 o m u A D n).mono ?_;rintro e N⟨bb,E,rfl,co⟩;have C4:=aC co)
  |(go_at_call 65;refine C4.mono ?_;rintro e p⟨⟨nv,B,rfl,-,ho⟩,y0,ak⟩;have HB:=aC ak;have S:Hid ((((B:Int) !=0)=true->ji w i t ([],B,0))/\(((B:Int) !=0)=false->∃x,(∀y j,jB (di s.aX) x 0 [] y->s8 y j->ji w i t j)/\Calls prog 66 #[nv,.map (some E)] p λe W2=>Cw (di s.aX) x p e W2)):=(by
   obtain⟨z,r⟩|⟨z,x,r,I⟩:=ho
   ·exact⟨λ_=>HT _ r,λq=>absurd (Zi.1 q) (by omega)⟩
   exact⟨λq=>absurd z (by have:=ZI.1 q;omega),λ_=>⟨x,λy j a1 a2=>HT j (r y j a1 a2),I⟩⟩))
  |(go_at_call 66;have⟨x,r,I⟩:=S.2 (by assumption);refine I.mono ?_;rintro e Q⟨sv,V,ap,rfl,ah,y,hR,hs⟩;have ad:=HB.tr ah;have O:Hid ((((V:Int) !=0)=true->ji w i t ([],V,ap))/\(((V:Int) !=0)=false->∃v:jj,ji w i t (match v with
   |none=>([],5,0)|some H=>(H,0,0))/\γ 67 #[sv] Q (qy v))):=(by
   obtain⟨z,C⟩|⟨z,v,C,Z⟩:=hs
   ·exact⟨λ_=>r _ _ hR C,λq=>absurd (Zi.1 q) (by omega)⟩
   exact⟨λq=>absurd z (by have:=ZI.1 q;omega),λ_=>⟨v,r _ _ hR C,Z⟩⟩))
  )
 ·rename_i q;go_ret3
  exact⟨_,S.1 q,rfl,HB⟩
 ·rename_i q;go_ret3
  exact⟨_,O.1 q,rfl,ad⟩
 have⟨v,p1,p2⟩:=O.2 (by assumption);refine κ p2 λw5 ag=>?_;have T:=ad.tr ag;cases v with
 |none=>
  unfold qy;go_wp2
  go_ret3
  exact⟨_,p1,rfl,T⟩
 |some H=>
  unfold qy;go_wp2
  go_ret3
  exact⟨_,p1,rfl,T⟩
def SV(d:fy)(h c:aj)(a:fY)(k b i M P:Nat)(W:ay)(r:0<d.length->a=some ⟨b,i,none⟩)(n:eJ W b i d)(p:b<W.heap.size)(m:d.length<=8388608)(o:dq W)(j:∀E g,Pl.look (d.foldl Pl.bA []) E=some g->g.aU.length+1<=M/\g.aU.length<=1073741824)(y:101*M<=2000000000)(x:(d.foldl Pl.bA []).length<=4000000000)(v:P<=80000)(D:∀f∈d.foldl Pl.bA [],f.aL.length<=8388608)(z:sD (cX (d.foldl Pl.bA []) h).2.2 (d.foldl Pl.bA []) (gK (cX (d.foldl Pl.bA []) h).2.2 c) P):
 Calls prog 40 #[.slice a d.length k,σ h,σ c] W λe W'=>vu (d.foldl Pl.bA []) h c W e W':=by
 by_cases u:(cX (d.foldl Pl.bA []) h).1=0
 ·exact Q_ d h c a k b i M P W r n p m o j y x v D z u
 exact Nn d h c a k b i M W r n p m o j (by omega) u
structure DA(fs0:fy)(aL goal:aj):Prop where
 fU:fs0.length<=8388608
 aU:∃M,101*M<=2000000000/\∀p g,Pl.look (fs0.foldl Pl.bA []) p=some g->g.aU.length+1<=M/\g.aU.length<=1073741824
 xB:(fs0.foldl Pl.bA []).length<=4000000000
 Xs:∀f∈fs0.foldl Pl.bA [],f.aL.length<=8388608
 name:∃P,P<=80000/\sD (cX (fs0.foldl Pl.bA []) aL).2.2 (fs0.foldl Pl.bA []) (gK (cX (fs0.foldl Pl.bA []) aL).2.2 goal) P
def E4(d:DA m j D)(a:fY)(g b h:Nat)(W:ay)(v:0<m.length->a=some ⟨b,h,none⟩)(o:eJ W b h m)(c:b<W.heap.size)(z:dq W):
 Calls prog 11 #[.slice a m.length g,σ j,σ D] W λe W'=>vu (m.foldl Pl.bA []) j D W e W':=by
 have⟨M,y,n⟩:=d.aU;have⟨P,E,r⟩:=d.name;have C:=aC (SV m j D a g b h M P W v o c d.fU z n y d.xB E d.Xs r);go_in;go_wp2_with fail
 refine C.mono ?_;rintro e x⟨f,i,rfl,p⟩;have H:=aC (show vu (m.foldl Pl.bA []) j D W (.returned (.tuple #[σ f.1,ι (f.2.1:Int),ι (f.2.2:Int)])) x from⟨f,i,rfl,p⟩);go_wp2_with fail
 go_ret3
 exact H
def nu(l:aj)(g:fy)(b:ga)(aQ:Int)(B:Nat)(e:Ending)(w':ay):Prop:=
 (¬k_ l/\e=.returned (.tuple #[sk,ι 9]))\/
  ∃a c f d,Pl.load l=some (a,c)/\k_ l/\e=.returned (.tuple #[.agg #[f,d,ι (gm c a b (fK g aQ)).exit,ι (gm c a b (fK g aQ)).aQ],ι 0])/\
   fJ w' B f (gm c a b (fK g aQ)).aI/\pZ w' B d (eB (gm c a b (fK g aQ)).aW)
section
variable {l:aj}{aQ:Int}{w:ay}
def nu.shape(h:nu l fs ef aQ B e w'):∃d m i f p a j r er,e=.returned (.tuple #[.agg #[.slice d m i,.slice f p a,ι j,ι r],ι er]):=by
 obtain⟨_,rfl⟩|⟨v,c,u,x,_,_,rfl,n,o⟩:=h
 ·exact⟨none,0,0,none,0,0,0,0,9,rfl⟩
 obtain⟨d,i,rfl⟩:=fp n;obtain⟨f,a,rfl⟩:=fp o;exact⟨d,_,i,f,_,a,_,_,0,rfl⟩
def nu.set{k:Nat}(h:nu l fs ef aQ B e w')(a:N<B)(u:az):nu l fs ef aQ B e (w'.ψ N k u):=by
 obtain h|⟨i,c,f,m,j,g,n,b,d⟩:=h
 ·exact .inl h
 exact .inr ⟨i,c,f,m,j,g,n,cP b (cQ b a) _ _,cP d (cQ d a) _ _⟩
def nu.aD(h:nu l fs ef aQ B e w)(d:μ w w'):nu l fs ef aQ B e w':=by
 obtain h|⟨j,c,g,n,m,i,o,b,f⟩:=h
 ·exact .inl h
 exact .inr ⟨j,c,g,n,m,i,o,bI b (λk a=>d.block k (Yt b k a).2),bI f (λk a=>d.block k (Yt f k a).2)⟩
def nu.bS(h:nu l fs ef aQ B e w)(a:C<=B):nu l fs ef aQ C e w:=by
 obtain h|⟨f,c,b,j,i,d,m,g,k⟩:=h
 ·exact .inl h
 exact .inr ⟨f,c,b,j,i,d,m,kY g a,kY k a⟩
end
def Df(d:fy)(f b:aj)(g:ga)(h:Int)(W:ay)(e:Ending)(W':ay):Prop:=
 μ W W' /\∃a,ji (d.foldl Pl.bA []) f b a/\((a.2.1≠0/\e=.returned (.tuple #[sk,ι (a.2.1:Int),ι (a.2.2:Int)]))\/
  (a.2.1=0/\∃v c,e=.returned (.tuple #[v,ι c,ι 0])/\nu a.1 d g h W.heap.size (.returned (.tuple #[v,ι c])) W'))
theorem BE:∀(j:List (aj×Nat)) (k:Nat) (f:fv) (d:Nat) (out:fv),j9 dl x j k f (.inr (d,out))->k<=d/\(d <=500->out.length+k=f.length+d)
 |[],k,f,d,out,h=>by have e:(Sum.inr (d,out):(Nat×Nat)⊕(Nat×fv))=.inr (k,f):=h;cases e;exact⟨X0 _,λ_=>rfl⟩
 |c::i,k,f,d,out,⟨n,o,h⟩=>by
  split at h
  ·cases h
  split at h
  ·exact BE i k f d out h
  have⟨a,b⟩:=BE i (k+1) _ d out h;refine⟨by omega,λm=>?_⟩;have:=b m;rw[Yd (by omega),X4,Yx]at this;omega
theorem BA:∀(j:List cI) (k:Nat) (f:List cj) (a:Nat) (d:List cj),jB dl j k f (.inr (a,d))->k<=a/\(a <=500->kH d+k=kH f+a)/\d.map (λx=>(x.name,x.aH))=f.map (λx=>(x.name,x.aH))++j.map (λx=>(x.name,x.aH))
 |[],k,f,a,d,h=>by have e:(Sum.inr (a,d):(Nat×Nat)⊕(Nat×List cj))=.inr (k,f):=h;cases e;exact⟨X0 _,λ_=>rfl,by simp⟩
 |x::y,k,f,a,d,⟨G,u,h⟩=>by
  cases G with
  |inl e=>cases h
  |inr n=>
   have⟨m,H⟩:=n;have⟨E,r⟩:=BE _ _ _ _ _ u;have⟨D,o,p⟩:=BA y m _ a d h;refine⟨by omega,λv=>?_,?_⟩
   ·have z:=r (by omega);have i:=o v;rw[MF]at i;simp only[kH,Yr]at z i;omega
   rw[p,Yy,YB];rfl
def Iu(h:ji fs j D p)(e:p.2.1=0)(m:sD (cX fs j).2.2 fs (gK (cX fs j).2.2 D) 64000):p.1.length<=8388608:=by
 obtain⟨-,q,k,J,I,r,f,g,z,t,C⟩:=h.vG e;obtain⟨-,V,i⟩:=BA _ _ _ _ _ z;have H:=(wY I r).1;have c:=BF fs j;have E:=m g q I r f;have Z:∀x∈q.2.cL,x.name.length<=64000/\x.aH.length<=100/\∀n∈x.aH,n.length<=64000:=λx d=>by have⟨Q,l⟩:=uj c H f d;refine⟨E x d,Q,λn m=>?_⟩;have⟨y,a,b⟩:=l n m;rw[<-b];exact E y a
 have⟨S,R⟩:=x8 (P:=64000) _ _ _ _ _ z Z (λx d=>by cases d);simp only[Z9,Y2]at i;refine Tj C ?_ ?_ R λx d n F=>?_
 ·rw[S,Yr];omega
 ·have:=V t;simp only[kH]at this;omega
 have o:(x.name,x.aH)∈J.map λx=>(x.name,x.aH):=YC.2 ⟨x,d,rfl⟩;rw[i]at o;have⟨u,B,N⟩:=YC.1 o;have M:u.aH=x.aH:=by simpa using Yg Prod.snd N
 have⟨y,A,s⟩:=(uj c H f B).2 n (by rw[M];exact F);have G:(y.name,y.aH)∈q.2.cL.map λx=>(x.name,x.aH):=YC.2 ⟨y,A,rfl⟩;rw[<-i]at G;have⟨v,w,O⟩:=YC.1 G;refine⟨v,w,?_⟩;have:v.name=y.name:=by simpa using Yg Prod.fst O
 rw[this,s]
def lA:fy->Nat
 |[]=>0
 |f::a=>f.aL.length+f.aU.length+1+lA a
theorem wV:∀{fs:fy} {f:aJ},f∈fs->f.aL.length+f.aU.length+1<=lA fs
 |[],_,h=>by cases h
 |g::a,f,h=>by
  rw[lA];obtain e|e:=YD.1 h
  ·rw[e];omega
  have:=wV e;omega
theorem BC:∀fs:fy,fs.length<=lA fs
 |[]=>X0 _
 |f::a=>by have:=BC a;rw[lA,Ya];omega
def NP:lM (fs++m)=lM fs+lM m:=by
 induction fs with
 |nil=>simp[lM]
 |cons x f d=>rw[Y3,lM,lM,d];omega
theorem BX:∀(fs a:fy),lM (fs.foldl Pl.bA a)<=lM a+lA fs/\∀f∈fs.foldl Pl.bA a,f∈a\/f∈fs
 |[],a=>⟨X0 _,λf d=> .inl d⟩
 |g::h,a=>by
  have⟨m,i⟩:=BX h (Pl.bA a g);rw[YP,lA];have j:lM (Pl.bA a g)<=lM a+g.aL.length/\∀f∈Pl.bA a g,f∈a\/f=g:=by
   unfold Pl.bA;split
   ·exact⟨IH _ _,λf d=> .inl d⟩
   refine⟨by rw[NP];simp[lM],λf d=>?_⟩;obtain e|e:=Yv.1 d
   ·exact .inl e
   exact .inr (Yc.1 e)
  refine⟨by omega,λf d=>?_⟩;obtain e|e:=i f d
  ·obtain q|q:=j.2 f e
   ·exact .inl q
   exact .inr (by rw[q];exact Yq ..)
  exact .inr (Yp _ e)
def y'(r:lA m<=1048576)(a b:aj):sD (cX (m.foldl Pl.bA []) a).2.2 (m.foldl Pl.bA []) (gK (cX (m.foldl Pl.bA []) a).2.2 b) 64000:=by have⟨o,n⟩:=BX m [];have j:∀f∈m.foldl Pl.bA [],f∈m:=λf d=>(n f d).resolve_left (λq=>by cases q);obtain⟨k,i,-⟩:=JM (M:=1048577) (fs:=m.foldl Pl.bA []) (λp g h=>by have:=wV (j g (YV h));omega) a;exact U4 i (Jk _ _) (S9) (by simp only[lM]at o;omega) _
def DB{fs0:fy}(n:lA fs0<=1048576)(d b:aj):DA fs0 d b:=by
 have⟨r,j⟩:=BX fs0 [];have i:∀f∈fs0.foldl Pl.bA [],f∈fs0:=λf a=>(j f a).resolve_left (λq=>by cases q);have:=BC fs0;have m:=Cm fs0 [];refine⟨by omega,⟨1048577,by decide,λp g h=>?_⟩,?_,λf a=>?_,64000,by decide,y' n d b⟩
 ·have:=wV (i g (YV h));omega
 ·simp only[Yr]at m;omega
 have:=wV (i f a);omega
def uT(l:List cI):Prop:=∀a (h:a<l.length),∀n∈l[a].aH,∃d,∃f:d<a,(l[d]'(by omega)).name=n
def uT.gC{l:List cI}(h:uT l)(u:∀n∈d9.aH,∃y∈l,y.name=n):uT (l++[d9]):=λf r n d=>by
 rw[X4,Yx]at r;by_cases e:f=l.length
 ·subst e;rw[aeo rfl]at d;have⟨y,p,m⟩:=u n d;obtain⟨i,a,rfl⟩:=ZD p;exact⟨i,a,by rw[ZU a];exact m⟩
 have j:f<l.length:=by omega
 rw[ZU j]at d;have⟨i,a,o⟩:=h f j n d;exact⟨i,a,by rw[ZU (by omega)];exact o⟩
structure DI(s:St)(fs:fy)(us:List (Nat×fv))(t:cT):Prop where
 ov:oE s fs us none t
 ah:t.cL.length<=100->uT t.cL
section
def Fi:(dW s fs us ds j).2.cL=ds.cL:=by
 unfold dW;split
 ·rfl
 split
 ·rfl
 split<;>rfl
def UX(h:DI s fs us ds)(a:ds.opn.getLast?=some dT)(p:(gd s fs us ds).1=0):DI s fs us (gd s fs us ds).2:=by
 refine⟨Ka h.ov a p,?_⟩;have⟨d,m⟩:=ZG.1 a;have f:=h.ov.lk;rw[m]at f;unfold gd;rw[a];simp only;split
 ·rename_i v;unfold nA;rw[a];simp only;split
  ·rename_i j;intro _;refine(h.ah j).gC λn u=>?_;have⟨r,i⟩:=adU u;have y:=(Yl.1 i).1;have:=ik.dN (two:=λn=>bP ds.bM n=2) d f r (by omega);rw[Yf,i]at this;exact h.ov.all j n this
  intro o;exact h.ah o
 rw[Fi];exact h.ah
def PF(h:iy s fs us (dW s fs us gU j) o)(d:o.1=0)(a:o.2.cL.length<=100):uT o.2.cL:=by have⟨n,i⟩:=h;exact(wF (DI s fs us) (λt x h a d=>UX h a d) n _ o i (λe=>⟨BQ (Lp j) e,λ_=>by rw[Fi];exact λg f=>by cases f⟩) d).ah a
end
structure Sm(A:fv)(q:Wr):Prop where
 dd:mM A q
 ok:q.lK=false
section
variable {q:Wr}
def wZ(h:L<256^wk):Cp.iC L wk=false:=by unfold Cp.iC;exact Y9 (by omega)
def Sm.add(h:Sm A q){op:Nat}{os:gb}(a:os.getD 0 0<256^iA op 0)(d:os.getD 1 0<256^iA op 1):Sm A (cy q op os):=⟨h.dd.add _ _,by rw[EX,h.ok,wZ a,wZ d];rfl⟩
def Sm.Cy(h:Sm A q)(a:j∈A):Sm A (q.dd j):=⟨h.dd.dd a,by
 unfold Wr.dd;split
 ·exact h.ok
 exact h.ok⟩
def Sm.bh(h:Sm A q)(f:A.length<=600)(s:aj):q.bh s<65536:=by have:=yX q s;have:=xl q.a_ A h.dd.nd h.dd.sE;omega
theorem I5(m:A.length<=600)(b:eh)(d:∀n,bP b n<256)(a:Nat)(o:a<65536):∀(f:fv) (q:Wr),Sm A q->(∀n∈f,n∈A)->Sm A (f.foldl (gu b a) q)
 |[],_,h,_=>h
 |n::p,q,h,j=>by refine I5 m b d a o p _ ?_ λy u=>j y (Yp _ u);unfold gu;have r:Sm A (cy q 4 [bP b n]):=h.add (d n) (show 0<256^0 by decide);have i:Sm A (cy (cy q 4 [bP b n]) 5 []):=r.add (show 0<256^0 by decide) (show 0<256^0 by decide);exact((i.Cy (j n (Yq ..))).add (op:=3) (os:=[a,(cy (cy q 4 [bP b n]) 5 []).bh n]) (show a<256^2 from o) (show _<256^2 from i.bh m n)).add (show 0<256^0 by decide) (show 0<256^0 by decide)
theorem Ja(f:A.length<=600):∀(a:fv) (q:Wr),Sm A q->(∀c∈a,c∈A)->Sm A (a.foldl gQ q)
 |[],_,h,_=>h
 |c::i,q,h,d=>by refine Ja f i _ ?_ λy j=>d y (Yp _ j);unfold gQ;exact(h.Cy (d c (Yq ..))).add (show _<256^2 from h.bh f c) (show 0<256^0 by decide)
def AR:(cy em L dn).bk.length=em.bk.length+1+iA L 0+iA L 1:=by rw[pG,X4,Ya,X4,jA _ _ (w_ L 0),jA _ _ (w_ L 1)];omega
theorem FF:∀(a:fv) (q:Wr),(a.foldl gQ q).bk.length=q.bk.length+3*a.length
 |[],_=>rfl|c::f,q=>by rw[YP,FF f];unfold gQ;rw[AR,oL];have d:iA 7 0=2:=rfl;have h:iA 7 1=0:=rfl;rw[d,h,Ya];omega
theorem KT(f:A.length<=600)(d:List cj)(I:d.length<=100)(u:∀x∈d,x.aI.length<=500)(r:∀x∈d,x.name∈A/\(∀n∈x.aH,n∈A)/\∀c∈x.aI,c∈A):∀a,a<=d.length->Sm A (dm d a).1/\∀x∈(dm d a).2,x.2<256
 |0,_=>⟨⟨⟨Z',λx m=>by cases m⟩,rfl⟩,λx m=>by cases m⟩
 |a+1,R=>by
  have i:a<d.length:=by omega
  have⟨h,y⟩:=KT f d I u r a (by omega);have⟨D,v,J⟩:=r d[a] (Ym i);have:=u d[a] (Ym i);have o:=yx d[a].name a 256 (by omega) (dm d a).2 y;have E:∀n,bP (da (dm d a).2 d[a].name a) n<256:=λn=>F8 n 256 (by decide) _ o;rw[ud d a i];refine⟨?_,o⟩;simp only;have z:Sm A (iR (da (dm d a).2 d[a].name a) (dm d a).1 d[a].ph d[a].name d[a].aH):=by
   unfold iR;split
   ·exact h.add (show 1<256^1 by decide) (show 0<256^0 by decide)
   exact I5 f _ E _ (h.bh f _) _ _ ((h.Cy D).add (show _<256^2 from h.bh f _) (show 0<256^0 by decide)) v
  generalize iR (da (dm d a).2 d[a].name a) (dm d a).1 d[a].ph d[a].name d[a].aH=p at*;have j:Sm A (gy (cy p 6 []) d[a].aI a):=by unfold gy;exact(Ja f _ _ (z.add (op:=6) (os:=[]) (show 0<256^2 by decide) (show 0<256^0 by decide)) J).add (show a<256^1 by omega) (show 0<256^0 by decide)
  have H:(gy (cy p 6 []) d[a].aI a).bk.length=p.bk.length+3+3*d[a].aI.length+2:=by unfold gy;rw[AR,FF,AR];have M:iA 6 0=2:=rfl;have G:iA 6 1=0:=rfl;have N:iA 8 0=1:=rfl;have O:iA 8 1=0:=rfl;rw[M,G,N,O]
  unfold nD vE;refine⟨⟨j.dd.nd,j.dd.sE⟩,?_⟩;simp only;rw[j.ok,H,wZ (show _<256^2 by omega)];rfl
def Qq(z:d.length<=100)(H:kH d<=500)(i:∀x∈d,vX 64000 x)(E:∀x∈d,∀n∈x.aH,∃y∈d,y.name=n):∃p,ie d=some p:=by
 have r:(d.map (·.name)++d.flatMap (·.aI)).length<=600:=by rw[X4,Yk,A8];omega
 obtain⟨h,-⟩:=KT r d z (λx f=>(i x f).aI) (λx f=>⟨YK _ (YC.2 ⟨x,f,rfl⟩),λn v=>(by have⟨y,a,b⟩:=E x f n v;exact YK _ (YC.2 ⟨y,a,b⟩)),λc j=>YQ _ (x'.2 ⟨x,f,j⟩)⟩) d.length ax;have:=xl _ _ h.dd.nd h.dd.sE;unfold ie oW;generalize (dm d d.length).1=w at*;have u:nG w w.a_.length=false:=by
  unfold nG;rw[h.ok,wZ (show _<256^2 by omega),YR];simp only[Bool.or_self,l8];rw[pe];intro s D;have o:s.length<65536:=by
   obtain q|q:=Yv.1 (h.dd.sE s D)
   ·obtain⟨x,f,rfl⟩:=YC.1 q;have:=(i x f).name;omega
   have⟨x,f,j⟩:=x'.1 q;have:=(i x f).cw s j;omega
  rw[wZ (show s.length<256^2 from o)];decide
 rw[u];have m:decide (1000<w.a_.length)=false:=Y9 (by omega);rw[m];exact⟨_,rfl⟩
end
def Ov(R:iy (cX fs j).2.2 fs (cJ (cX fs j).2.2 fs (cX fs j).2.2.bJ) (dW (cX fs j).2.2 fs (cJ (cX fs j).2.2 fs (cX fs j).2.2.bJ) gU D) o)(G:o.1=0)(z:o.2.cL.length<=100)(g:∀x∈o.2.cL,x.name.length<=64000)(p:jB (di (cX fs j).2.2.aX) o.2.cL 0 [] (.inr (k,d)))(S:k<=500):∃V,ie d=some V:=by
 obtain⟨-,w,h⟩:=BA _ _ _ _ _ p;have q:=(wY R G).1;have r:=BF fs j;have E:∀x∈o.2.cL,x.name.length<=64000/\x.aH.length<=100/\∀n∈x.aH,n.length<=64000:=λx f=>by have⟨Q,O⟩:=uj r q z f;refine⟨g x f,Q,λn e=>?_⟩;have⟨y,a,b⟩:=O n e;rw[<-b];exact g y a
 have⟨t,Z⟩:=x8 (P:=64000) _ _ _ _ _ p E (λx f=>by cases f);simp only[Z9,Y2]at h;refine Qq ?_ ?_ Z λx f n s=>?_
 ·rw[t,Yr];omega
 ·have:=w S;simp only[kH]at this;omega
 have i:(x.name,x.aH)∈d.map λx=>(x.name,x.aH):=YC.2 ⟨x,f,rfl⟩;rw[h]at i;have⟨u,H,M⟩:=YC.1 i;have J:u.aH=x.aH:=by simpa using Yg Prod.snd M
 have⟨y,c,l⟩:=(uj r q z H).2 n (by rw[J];exact s);have m:(y.name,y.aH)∈o.2.cL.map λx=>(x.name,x.aH):=YC.2 ⟨y,c,rfl⟩;rw[<-h]at m;have⟨v,I,N⟩:=YC.1 m;refine⟨v,I,?_⟩;have:v.name=y.name:=by simpa using Yg Prod.fst N
 rw[this,l]
structure oB(b:Bk)(t:Wk)(ls:List (fv)):Prop where
 nd:(t.aT.map (·.1.name)).Nodup
 lt:∀i∈t.aY,i<t.aT.length
 Lr:((gF b t).map (·.name)).Nodup
 ah:uT (gF b t)
 ll:ls.length=t.aY.length
 ln:t.aT.length=t.aY.length
 le:t.aY.length<=100
 sc:jk ls<=500
def oB.fF(h:oB b V f):∀y∈gF b V,∀n∈y.aH,∃m∈gF b V,m.name=n:=λy a n j=>by obtain⟨d,i,rfl⟩:=ZD a;have⟨p,o,e⟩:=h.ah d i n j;exact⟨_,Ym _,e⟩
def oB.WT(h:oB b V f):∀a∈V.aY,∀n∈(cA V a).1.aH,∃p,dG V.aT n=some p:=λa o n v=>by have⟨m,r,u⟩:=h.fF (fa b (cA V a).1) (YC.2 ⟨a,o,rfl⟩) n v;obtain⟨d,j,rfl⟩:=YC.1 r;have i:(cA V d).1.name=n:=u;exact⟨d,by rw[<-i];exact An h.nd (h.lt d j)⟩
def oB.W_(h:oB b V f)(r:ie (ma b V f)=some j):∃T c,Pl.load j=some (T,c)/\k_ j/\∀ef X,X.exit=0->gm c T ef X=m_ ef V (V.aY.zip f) (λ_=>false) X:=by
 have E:(ma b V f).length=(gF b V).length:=by unfold ma gF;rw[List.length_zipWith,Yk,h.ll,Nat.min_self]
 have d:∀a (i:a<(ma b V f).length),(ma b V f)[a].name=((gF b V)[a]'(by omega)).name/\(ma b V f)[a].aH=((gF b V)[a]'(by omega)).aH:=λa i=>by have e:(ma b V f)[a]=rR ((gF b V)[a]'(by omega)) (f[a]'(by have:=h.ll;have:(gF b V).length=V.aY.length:=Yk _;omega)):=List.getElem_zipWith;rw[e];exact⟨rfl,rfl⟩
 have z:(ma b V f).map (·.name)=(gF b V).map (·.name):=by refine aco (by simpa using E) λa D G=>?_;rw[YT,YT];exact(d a (by simpa using D)).1
 have⟨T,c,p,v,x⟩:=G8 r (by rw[z];exact h.Lr) (λa i n o=>by rw[(d a i).2]at o;have⟨m,y,e⟩:=h.ah a (by omega) n o;exact⟨m,y,by rw[(d m (by omega)).1];exact e⟩);exact⟨T,c,p,v,λef X u=>by rw[x ef X u,V6 ef b h.nd h.lt h.Lr h.fF h.ll X]⟩
def QJ(h:ji fs j D p)(A:sD (cX fs j).2.2 fs (gK (cX fs j).2.2 D) 64000):
 ∃er o t n,rK (eA fs j) fs D er o t n/\(er=p.2.1/\o=p.2.2/\(er=0->ie (ma (eA fs j) t n)=some p.1/\oB (eA fs j) t n)):=by
 have⟨N,b2,X⟩:=Gc fs j;obtain⟨x,rfl⟩|⟨x,Z⟩:=h
 ·exact⟨_,_,jR,[],.inl ⟨by rw[<-N];exact x,rfl,rfl⟩,N.symm,(b2 x).symm,λe=>absurd (N.trans e) x⟩
 have s:=X x;have ah:(eA fs j).cH=0:=by rw[<-N];exact x
 have Y:gK (cX fs j).2.2 D=if D=[] then qx (eA fs j) else D:=by unfold gK;rw[Qr s];rfl
 rw[Y]at Z A;obtain⟨g,ad⟩:∃g,g=(if D=[] then qx (eA fs j) else D):=⟨_,rfl⟩;rw[<-ad]at Z A
 suffices r:∃er o t n,zd (eA fs j) fs g er o t n/\(er=p.2.1/\o=p.2.2/\(er=0->ie (ma (eA fs j) t n)=some p.1/\oB (eA fs j) t n)) by have⟨er,o,t,n,y,q2⟩:=r;exact⟨er,o,t,n,.inr ⟨ah,by rw[<-ad];exact y⟩,q2⟩
 obtain⟨u,rfl⟩|⟨u,z,rfl⟩|⟨u,z,q,r,hr⟩:=Z
 ·exact⟨8,0,jR,[],.inl ⟨u,rfl,rfl⟩,rfl,rfl,λe=>(by cases e)⟩
 ·exact⟨5,0,jR,[],.inr (.inl ⟨u,z,rfl,rfl⟩),rfl,rfl,λe=>(by cases e)⟩
 have⟨f,d,l,c,B⟩:=Sx s r;obtain⟨i,rfl⟩|⟨i,y,rfl⟩|⟨i,y,K,H,G⟩:=hr
 ·exact⟨d.1,0,d.2,[],.inr (.inr ⟨u,z,f,d,l,rfl,.inl ⟨by rw[c];exact i,rfl,rfl⟩⟩),c,rfl,λe=>absurd (c.symm.trans e) i⟩
 ·have⟨w,Q⟩:=B i;have M:=w.mu;rw[Q,Yr,ZH]at M;have V:=Yg List.length w.ov;rw[YL,Yk]at V;exact⟨5,0,d.2,[],.inr (.inr ⟨u,z,f,d,l,rfl,.inr (.inl ⟨c.trans i,by omega,rfl,rfl⟩)⟩),rfl,rfl,λe=>(by cases e)⟩
 have⟨w,Q⟩:=B i;have M:=w.mu;rw[Q,Yr,ZH]at M;have V:=Yg List.length w.ov;rw[YL,Yk]at V;have F:q.2.cL=gF (eA fs j) d.2:=by rw[w.ov,YF (by rw[Yk];omega)];rfl
 have P:=(wY r i).1.wj;have T:=PF r i y;rw[F]at P T;have L:=λk I (a:jB (di (cX fs j).2.2.aX) q.2.cL 0 [] (.inr (k,I))) (b:k<=500)=>Ov r i y (A z q r i y) a b;rw[F,s.nm]at H L;have⟨S,J,E⟩:=He _ _ _ [] K H;have v:∀(er o:Nat) (n:List (fv)),zr S er o n->zd (eA fs j) fs g er o d.2 n:=λ_ _ _ h=> .inr (.inr ⟨u,z,f,d,l,rfl,.inr (.inr ⟨c.trans i,by omega,S,J,h⟩)⟩)
 match K,S,E,G,v,J,H with
 | .inl e,.inl e',E,G,v,J,_=>have e1:e=e':=E;have e2:p=([],e.1,e.2):=G;subst e1 e2;exact⟨e.1,e.2,d.2,[],v _ _ _ ⟨rfl,rfl⟩,rfl,rfl,λq=>absurd q (JO J)⟩
 | .inr (k,I),.inr m,E,G,v,_,H=>
  have⟨bq,U,n2,W,n4⟩:=E;rw[Y2]at U;cases U;rw[YO]at W;obtain⟨R,rfl⟩|⟨R,C⟩:=G
  ·exact⟨5,0,d.2,m,v _ _ _ ⟨rfl,rfl,.inl ⟨by omega,rfl⟩⟩,rfl,rfl,λe=>(by cases e)⟩
  refine⟨0,0,d.2,m,v _ _ _ ⟨rfl,rfl,.inr ⟨by omega,rfl⟩⟩,?_⟩;have ai:I=ma (eA fs j) d.2 m:=by rw[n4 R];rfl
  have ag:m.length=d.2.aY.length:=by rw[n2];unfold gF;rw[Yk]
  have hD:oB (eA fs j) d.2 m:=⟨w.nd,w.lt,P,T,ag,M,by omega,by omega⟩;have⟨pl,O⟩:=L k I H R;rw[O]at C;rw[ai]at O;subst C;exact⟨rfl,rfl,λ_=>⟨O,hD⟩⟩
def QE(o:lA fs<=1048576)(h:ji (fs.foldl Pl.bA []) j D p):
 ∃er d t a,rK (eA fs j) fs D er d t a/\er=p.2.1/\d=p.2.2/\(er=0->ie (ma (eA fs j) t a)=some p.1/\oB (eA fs j) t a):=by have⟨er,d,t,a,i,m,n,f⟩:=QJ h (y' o j D);rw[RM (Fk fs)]at i f;exact⟨er,d,t,a,SF (Fk fs) i,m,n,f⟩
def Oz(b:fy)(f:aj)(h:(eA b f).cH=0):∀d∈(eA b f).aG,d.tg≠[]/\(d.cD=true->(d.tg.headD []).contains 37=true):=λd o=>by obtain⟨i,-,p⟩:=Gc b f;obtain⟨j,-,m,n,-⟩:=(p (i.trans h)).ru d o;refine⟨n,λa=>?_⟩;rw[j]at a;have⟨x,r⟩:=m a;rw[r]at a⊢;unfold fu ep at a;simp only[l9,List.any_nil,X2,Zy]at a;rw[WU,afD];exact aem.1 a
theorem AT:∀fs:fy,gD (fs.map (·.aL))<=lA fs
 |[]=>X0 _
 |f::a=>by have:=AT a;unfold gD at*;rw[YE,YE,ri,lA];omega
def Gk(d:lA fs<=1048576):∀a g,Pl.look fs a=some g->g.aU.length<=1048576:=λa g h=>by have:=wV (YV h);omega
def tE(f:Nat)(h:eD (di fc) (λ_=>none) f [] 0 [] D=some ⟨j,0,0⟩):dK fc D=⟨j,0,0⟩:=J4 ⟨f,h⟩
def Dp{c:ib}{l:Ln}{a b:aj}(d:l.cK=5)(f:dK s.aX l.left=⟨a,0,0⟩)(h:dK s.aX l.right=⟨b,0,0⟩)(i:lJ (bQ a) (bQ b)=true)(j:s.n≠64):
 eW dH fs s c l=(0,l.eK,bA {s with n:=s.n+1} (bQ a) (bQ b)):=by unfold eW gJ;rw[Yb (by rw[d];decide),Yd d,f,h,Yb (by simp),Yb (by simp),Yb (by rw[i];simp),Yb j]
def kN:NL:=[([67,67],⟨[99,99,32,36,40,70,41],true⟩),([70],⟨[45,111],false⟩)]
def D3:St:={iO with aX:=kN}
def D5:St:=(bA {D3 with n:=1} [[97,108,108]] [[97,46,111],[98]]).2
def DU:St:=(bA {D5 with n:=2} [[37,46,111]] [[37,46,99]]).2
def DY:St:=(gH DU (some 1) ⟨5,1,[],[36,40,67,67,41,32,36,64,32,36,60]⟩).2
def D6:St:=(bA {DY with n:=3} [[98]] []).2
def kS:St:=(gH D6 (some 2) ⟨7,1,[],[109,107,32,36,64]⟩).2
def Tb:cX eQ [82]=(0,0,kS):=by
 have o:eO (dF r9)=[(⟨1,4,[67,67],[99,99,32,36,40,70,41]⟩,0),(⟨2,3,[70],[45,111]⟩,0),(⟨3,5,[97,108,108],[97,46,111,32,98]⟩,0),(⟨4,5,[37,46,111],[37,46,99]⟩,0),(⟨5,1,[],[36,40,67,67,41,32,36,64,32,36,60]⟩,0),(⟨6,5,[98],[]⟩,0),(⟨7,1,[],[109,107,32,36,64]⟩,0)]:=by rfl
 show jE eQ 3 iO r9=_;rw[jE,o];generalize jE eQ 2=c;have h:eW c eQ iO none ⟨1,4,[67,67],[99,99,32,36,40,70,41]⟩=(0,1,none,{iO with aX:=[([67,67],⟨[99,99,32,36,40,70,41],true⟩)]}):=rfl;have p:dK [([67,67],⟨[99,99,32,36,40,70,41],true⟩)] [45,111]=⟨[45,111],0,0⟩:=tE 1 rfl;have f:eW c eQ {iO with aX:=[([67,67],⟨[99,99,32,36,40,70,41],true⟩)]} none ⟨2,3,[70],[45,111]⟩=(0,2,none,D3):=by unfold eW iF;rw[Yb (by decide),Yb (by decide),Yb (by decide),Yb (by decide)];simp only[p];rfl
 have n:eW c eQ D3 none ⟨3,5,[97,108,108],[97,46,111,32,98]⟩=(0,3,some 0,D5):=Dp (a:=[97,108,108]) (b:=[97,46,111,32,98]) rfl (tE 1 rfl) (tE 1 rfl) rfl (by decide);have d:eW c eQ D5 (some 0) ⟨4,5,[37,46,111],[37,46,99]⟩=(0,4,some 1,DU):=Dp (a:=[37,46,111]) (b:=[37,46,99]) rfl (tE 1 rfl) (tE 1 rfl) rfl (by decide);have m:eW c eQ DU (some 1) ⟨5,1,[],[36,40,67,67,41,32,36,64,32,36,60]⟩=(0,5,some 1,DY):=rfl;have j:eW c eQ DY (some 1) ⟨6,5,[98],[]⟩=(0,6,some 2,D6):=Dp (a:=[98]) (b:=[]) rfl (tE 1 rfl) (tE 1 rfl) rfl (by decide);have i:eW c eQ D6 (some 2) ⟨7,1,[],[109,107,32,36,64]⟩=(0,7,some 2,kS):=rfl;rw[iQ,Yb (by simp),Yb (by rw[h];simp),h,iQ,Yb (by simp),Yb (by rw[f];simp),f,iQ,Yb (by simp),Yb (by rw[n];simp),n,iQ,Yb (by simp),Yb (by rw[d];simp),d,iQ,Yb (by simp),Yb (by rw[m];simp),m,iQ,Yb (by simp),Yb (by rw[j];simp),j,iQ,Yb (by simp),Yb (by rw[i];simp),i,iQ]
def kO:List cI:=[⟨[97,46,99],false,[],[],[]⟩,⟨[97,46,111],false,[[97,46,99]],[97],[([36,40,67,67,41,32,36,64,32,36,60],5)]⟩,⟨[98],false,[],[],[([109,107,32,36,64],7)]⟩,⟨[97,108,108],false,[[97,46,111],[98]],[],[]⟩]
def mN:List cj:=[⟨[97,46,99],false,[],[],[]⟩,⟨[97,46,111],false,[[97,46,99]],[97],[[99,99,32,45,111,32,97,46,111,32,97,46,99]]⟩,⟨[98],false,[],[],[[109,107,32,98]]⟩,⟨[97,108,108],false,[[97,46,111],[98]],[],[]⟩]
theorem KO:∀(n:Nat) {m:Nat} {i q h:Nat×cT},ee s fs us n i=some q->ee s fs us m i=some h->q=h
 |0,m,i,q,h,d,a=>by
  rw[ee]at d;split at d
  ·rename_i f;cases m with
   |zero=>rw[ee,Yd f]at a;rw[<-YW d,<-YW a]
   |succ m=>rw[ee,Yd f]at a;rw[<-YW d,<-YW a]
  cases d
 |n+1,m,i,q,h,d,a=>by
  rw[ee]at d;split at d
  ·rename_i f;cases m with
   |zero=>rw[ee,Yd f]at a;rw[<-YW d,<-YW a]
   |succ m=>rw[ee,Yd f]at a;rw[<-YW d,<-YW a]
  rename_i f;cases m with
  |zero=>rw[ee,Yb f]at a;cases a
  |succ m=>rw[ee,Yb f]at a;exact KO n d a
def TM(h:iy kS eQ (cJ kS eQ kS.bJ) (dW kS eQ (cJ kS eQ kS.bJ) gU [97,108,108]) o):o.1=0/\o.2.cL=kO:=by
 have⟨m,f⟩:=h;have a:(ee kS eQ (cJ kS eQ kS.bJ) 20 (dW kS eQ (cJ kS eQ kS.bJ) gU [97,108,108])).map (λo=>(o.1,o.2.cL))=some (0,kO):=by rfl
 cases d:ee kS eQ (cJ kS eQ kS.bJ) 20 (dW kS eQ (cJ kS eQ kS.bJ) gU [97,108,108]) with
 |none=>rw[d]at a;cases a
 |some i=>rw[d]at a;obtain rfl:=KO _ d f;have:=YW a;exact⟨Yg Prod.fst this,Yg Prod.snd this⟩
def Ic:∃a,ie mN=some a:=by
 have h:(ie mN).isSome=true:=by decide
 cases d:ie mN with
 |none=>rw[d]at h;cases h
 |some a=>exact⟨a,rfl⟩
def KP{c:aj×Nat}{f n:Nat}{t:aj}{d:(Nat×Nat)⊕(Nat×fv)}(h:j9 dl x [c] k [] d)(i:eD dl x f [] 0 [] c.1=some ⟨t,0,n⟩)(o:Mk.cut t≠[])(j:k+1<=500):d=.inr (k+1,[t]):=by have⟨e,m,a⟩:=h;obtain rfl:=m.mx ⟨f,i⟩;rw[Yb (by simp),Yb o,Yd j]at a;exact a
def P6(h:jB (di kS.aX) kO 0 [] H):H=.inr (2,mN):=by have⟨m,j,h⟩:=h;have i:m=.inr (0,[]):=j;subst i;have⟨u,d,h⟩:=h;obtain rfl:=KP (f:=20) (n:=2) (t:=[99,99,32,45,111,32,97,46,111,32,97,46,99]) d rfl (by decide) (by decide);have⟨v,r,h⟩:=h;obtain rfl:=KP (f:=20) (n:=0) (t:=[109,107,32,98]) r rfl (by decide) (by decide);have⟨p,a,h⟩:=h;have o:p=.inr (2,[]):=a;subst o;exact h
def If(h:ji eQ [82] [] p):∃d,ie mN=some d/\p=(d,0,0):=by
 have⟨d,f⟩:=Ic;refine⟨d,f,?_⟩;unfold ji at h;rw[Tb]at h;obtain⟨a,-⟩|⟨-,h⟩:=h
 ·exact absurd rfl a
 have n:gK kS []=[97,108,108]:=rfl;simp only at h;rw[n]at h;obtain⟨a,-⟩|⟨-,a,-⟩|⟨-,-,q,i,h⟩:=h
 ·cases a
 ·exact absurd a (by decide)
 have⟨m,o⟩:=TM i;rw[o]at h;obtain⟨a,-⟩|⟨-,a,-⟩|⟨-,-,r,j,h⟩:=h
 ·exact absurd m a
 ·exact absurd a (by decide)
 obtain rfl:=P6 j;obtain⟨a,-⟩|⟨-,h⟩:=h
 ·exact absurd a (by decide)
 rw[f]at h;exact h
def Ir:eQ.foldl Pl.bA []=eQ:=rfl
def K7:fv:=[[99,99,32,45,111,32,97,46,111,32,97,46,99],[109,107,32,98]]
def GQ:(mN.map (·.name)).Nodup/\Dg mN:=by
 refine⟨by decide,λf d n a=>?_⟩
 match f,d with
 |0,_=>cases a
 |1,_=>obtain rfl:=Yc.1 a;exact⟨0,by omega,rfl⟩
 |2,_=>cases a
 |3,_=>
  obtain rfl|a:=YD.1 a
  ·exact⟨1,by omega,rfl⟩
  obtain rfl:=Yc.1 a;exact⟨2,by omega,rfl⟩
def R8:(oH [] mN [] (fK eQ 10)).aI=K7:=by rfl
def Q6(h:fO W vp U)(R:([32].intercalate U).length<=4294967296)(q:U.length<=4294967296):
 Calls prog 71 #[vp] W λe w'=>e=.returned (.string ⟨([32].intercalate U).toArray⟩)/\W=w':=by
 obtain⟨a,b,g,G,rfl,i,I⟩:=h;have D:∀(k:Nat) (x:aj),k<U.length->U[k]?=some x->W.cell? ⟨g,G+k,none⟩=some (.string ⟨x.toArray⟩):=by intro k x N l;rw[I k N,(Yl.1 l).2];rfl
 have J:0<U.length->a=some ⟨g,G,none⟩:=λe=>(i e).1;clear i I;generalize S:U.length=n at q D J⊢;have H:=aC S;clear S;have Q:=aC R;clear R;go_in;go_wp2
 go_loop [3,4] (λs E=>∃k:Nat,k<=n/\E=ι k/\s=.string ⟨([32].intercalate (U.take k)).toArray⟩) (λ_ E=>n-(intOf E).toNat)
 case atStart=>exact⟨0,Yh _,rfl,rfl⟩
 obtain⟨k,N,rfl,rfl⟩:=hrel;by_cases M:k<n
 ·have o:k<U.length:=by rw[H.u];exact M
  have d:=aC (O4 U k o);have z:=D k U[k] M (X9 o);obtain rfl:=J (by omega);have y:=Ye (z7 U k) Q.u;have f:=Ye (z7 U (k+1)) Q.u;rw[d.u]at f;clear D;have r:=aC (show k=0->[32].intercalate (U.take k)=[] from λh=>by rw[h];rfl);generalize [32].intercalate (U.take k)=Z at d y f r⊢;generalize U[k]=x at d f z;obtain⟨P,j⟩:∃P:aA,P=⟨Z.toArray⟩:=⟨_,rfl⟩;obtain⟨X,m⟩:∃X:aA,X=⟨x.toArray⟩:=⟨_,rfl⟩;have:P.size<=4294967296:=by rw[j,ea];exact y
  have:X.size<=4294967296:=by
   rw[m,ea];refine Ye ?_ f;split
   ·exact X0 _
   simp;omega
  have V:Hid (∀p:Nat,p=k+1->([32].intercalate (U.take p))=P.data.toList++(if k=0 then [] else [32])++X.data.toList):=by
   intro p i;rw[i,d.u,j,m];split
   ·rw[r.u (by assumption)];simp
   rfl
  rw[<-m]at z;rw[<-j];clear r j m d y f o;by_cases O:k=0
  ·subst O;rw[ZH]at z;go_wp2
   refine⟨⟨1,by omega,rfl,?_⟩,by simp[intOf];omega⟩;rw[V.u 1 rfl];exact Yg Value.string (ij (by simp))
  go_wp2
  refine⟨⟨k+1,by omega,by go_num,?_⟩,by simp[intOf];omega⟩;rw[V.u (k+1) rfl,Yb O];exact Yg Value.string (ij (by simp))
 have c:=aC (show U.take k=U from YF (by have:=H.u;omega));go_wp2
 go_ret;exact⟨qp (by rw[c.u]),rfl⟩
def sO(h:aF W L wk z)(q:W.ownsRow B bf bi vp i os')(j:wk≠bf):some L≠vp.ownBlock:=by
 intro d;obtain⟨rfl,_⟩|⟨g,b,m,rfl,_,a,_⟩:=q.2
 ·cases d
 have f:L=g:=by simpa [Value.ownBlock]using d
 subst f;unfold aF at h;rw[h]at a;simp at a;exact j a.2
def TQ(h:W.ownsRow B L wk vp bf z)(a:C<=B):W.ownsRow C L wk vp bf z:=by
 refine⟨h.1,?_⟩;obtain c|⟨g,d,b,c,e,i,f⟩:=h.2
 ·exact .inl c
 exact .inr ⟨g,d,b,c,Ye a e,i,f⟩
def Vy{c:aj}(h:∀d∈b.aG,d.nd.length<=2000):(sF b fs c).1.aH.length<=2000:=by
 have i:∀a,(b.aG.getD a db).nd.length<=2000:=λa=>by
  rw[Yf];cases j:b.aG[a]? with
  |none=>exact Yh _
  |some d=>exact h d (Z5 j)
 unfold sF;by_cases f:gh b.aG c (-1)=none/\fW b c=false
 ·rw[Yd f];cases ki b fs c with
  |none=>exact Yh _
  |some a=>have:=sK ((b.aG.getD a db).nd.map λn=>cW n (gB ((b.aG.getD a db).tg.headD []) c)) [];rw[Yk,Yr]at this;have m:=i a;show(List.foldl dj [] _).length<=2000;omega
 rw[Yb f];exact Yh _
def PS{u:az}{nb:Nat}(i:W.grownBy n vp.ownBlock)(d:L<W.heap.size)(a:some L≠vp.ownBlock)(f:L≠nb)(h:aF W L wk z):aF (n.ψ nb 1 u) L wk z:=((Ys _ _ _ _ f).trans (i.block L d a)).trans h
def Hh(a b:aj):(gB a b).length<=b.length:=by
 unfold gB;split
 ·exact Yh _
 split
 ·rw[YL,Zu];omega
 exact Yh _
def S8(hV:nL W bb fs b)(hS:nM b)(bX:∀d∈b.aG,d.tg≠[]/\(d.cD=true->(d.tg.headD []).contains 37=true))(cp:fs.length<=16777216)(name:aj)(cX:name.length<=1073741000):
 Calls prog 70 #[π bb,σ name] W λe W'=>KL b fs name W e W':=by
 unfold π σ;have HV:=aC hV;have HS:=aC hS;have cG:=aC bX;have dc:=hS.fU;have be:=aC hS.aG;have cC:=hV.lt;have CO:Hid (∀j,μ W j->γ 109 #[π bb,σ name,ι (-1)] j (ir (gh b.aG name (-1)))):=λj hb=>Gq (hV.aD hb) hS name (-1);have CP:Hid (∀j,μ W j->δ 110 #[π bb,σ name] j (.bool (fW b name))):=λj hb=>PG (hV.aD hb) hS name;have CA:Hid (∀j,μ W j->δ 111 #[π bb,σ name] j (.bool (kK b name))):=λj hb=>Iz (hV.aD hb) hS name;have CF:Hid (∀j,μ W j->∃af cf,j.χ bb 0=some (.slice af fs.length cf)/\δ 45 #[.slice af fs.length cf,σ name] j (ι (jW fs name))):=λj hb=>by obtain⟨af,cf,bf,pz,I,cr,cF⟩:=(hV.aD hb).aW;exact⟨af,cf,I,(qg fs name af cf bf pz j (λe=>(cr e).1) cF (by omega)).mono λe w' h=>⟨h.1,h.2.symm⟩⟩
 have r:Hid (sF b fs name=if gh b.aG name (-1)=none/\fW b name=false then
  match ki b fs name with
  |some f=>(⟨name,((b.aG.getD f db).nd.map λn=>cW n (gB ((b.aG.getD f db).tg.headD []) name)).foldl dj [],some f,gB ((b.aG.getD f db).tg.headD []) name,fW b name⟩,true)|none=>(⟨name,[],none,[],fW b name⟩,kK b name||(fW b name||(Pl.look fs name).isSome))
 else(⟨name,[],gh b.aG name (-1),[],fW b name⟩,kK b name||(fW b name||(Pl.look fs name).isSome))):=rfl
 have cV:Hid (∀n,gh b.aG name (-1)=some n->(n:Int)<64):=λn hn=>by have:=ZX.1 (YV hn);omega
 have bW:=aC (rA (fs:=fs) (p:=name));clear hV hS bX;unfold ir at CO;generalize c4:gh b.aG name (-1)=X at*;generalize bZ:fW b name=ph at*;generalize cU:kK b name=ai at*;obtain⟨I,bp⟩:∃I,I=(ai||(ph||(Pl.look fs name).isSome)):=⟨_,rfl⟩;rw[<-bp]at r;have a0:=aC bp;clear bp;go_enter func70,ntmps70;go_upto_region 1 with fail
 have cc:=(X5 W.heap.size W).alloc ax (.cells #[ε,ς,ι 0,ε,.bool false,.bool false,ς] 116);have ca:=aC (aF.bq W 116 DG);have bz:=aC cc;clear cc;go_upto_region 3 with(first|(go_at_call 109;refine κ (CO.u _ bz.u) λj bH=>?_;have aR:=aC (bz.u.trans (bH.mono (by rw[X_];omega)));have bx:=aC (ca.u.aD bH);clear bH)|(go_at_call 110;refine(CP.u _ aR.u).mono ?_;rintro e w2⟨rfl,rfl⟩)|(go_at_call 111;refine(CA.u _ (aR.u.alloc aR.u.size _)).mono ?_;rintro e w3⟨rfl,rfl⟩))
 have cA:=bx.u.lt;have J:Hid (jr W w2.heap.size (w2.heap.size+1) ⟨name,[],X,[],ph⟩ (ς) (w2.alloc (.cells #[σ name,ς,ι (iP X),ε,.bool ph,.bool false,ς] 116))):=aC ⟨aR.u.alloc aR.u.size _,bx.u.aD (ak _ _),aF.bq w2 116 (dP ⟨name,[],X,[],ph⟩ (ς)),YG _ _ _ _,cA,t' _,by rw[X_];exact X0 _⟩;generalize (w2.alloc (.cells #[σ name,ς,ι (iP X),ε,.bool ph,.bool false,ς] 116))=w3 at*;generalize w2.heap.size=y at*;clear aR bx bz ca CO CP CA;have g:=J.u.df.cell 4 (by simp[dP]);simp only[dP,X6,X7]at g;obtain⟨af,cf,g0,bM⟩:=CF.u w3 J.u.aP;have a7:=aC bM;clear bM CF;go_cut [7] from 18 (λP wc=>P=.bool I/\wc=w3)
 case first=>
  cases ba:ai with
  |true=>
   have HF:Hid (I=true):=aC (by rw[a0.u,ba];rfl);go_wp2_with fail
   go_meet
   exact⟨by rw[HF.u],rfl⟩
  |false=>
   cases Z:ph with
   |true=>
    have HF:Hid (I=true):=aC (by rw[a0.u,ba,Z];rfl);rw[Z]at g;go_wp2_with fail
    go_meet
    exact⟨by rw[HF.u],rfl⟩
   |false=>
    rw[Z]at g;rcases bW.u with⟨e1,l1⟩|⟨E,hj,e1,l1⟩
    ·have HF:Hid (I=false):=aC (by rw[a0.u,ba,Z,l1];rfl);rw[e1]at a7;go_wp2_with (go_at_call 45;refine a7.u.mono ?_;rintro e w4⟨rfl,rfl⟩)
     go_meet
     exact⟨by rw[HF.u],rfl⟩
    have HF:Hid (I=true):=aC (by rw[a0.u,ba,Z,l1];rfl);rw[e1]at a7;have tj:(0:Int)<=E:=by omega
    go_wp2_with (go_at_call 45;refine a7.u.mono ?_;rintro e w4⟨rfl,rfl⟩)
    go_meet
    exact⟨by rw[HF.u],rfl⟩
 obtain⟨rfl,rfl⟩:=hcut;clear g g0 a7 bW a0;obtain⟨z,br⟩:∃z,sF b fs name=z:=⟨_,rfl⟩;rw[br]at r;have bm:=aC br;clear br;go_upto_region 4 with fail
 rename_i K1 cE;go_cut [8] from 18 (λH wx=>H=ι 0/\wx=wc)
 case first=>
  go_wp2_with fail
  go_meet
  exact⟨rfl,rfl⟩
 obtain⟨rfl,rfl⟩:=hcut;refine cE _ _ ?_;go_cut [7] from 18 (λP wx=>P=.bool z.2/\∃o v,Hid (jr W y o z.1 v wx))
 case first=>
  by_cases hc:X=none/\ph=false
  ·obtain⟨bs,bh⟩:=hc;rw[Yd ⟨bs,bh⟩]at r;rw[bs,bh]at J;rw[bh]at r;clear bs bh;go_wp2_with fail
   go_loopw [7,8] (λP H wr=>∃f:Nat,H=ι f/\f<=b.aG.length/\((P=.bool I/\Hid (∀E,E<f->gV b fs name (b.aG.getD E db)=false)/\∃o,Hid (jr W y o ⟨name,[],none,[],false⟩ (ς) wr))\/(P=.bool z.2/\∃k o v,Hid (z.1.gW =some k)/\Hid (jr W y o z.1 v wr)))) (λ_ H _=>b.aG.length-aV H)
   case atStart=>exact⟨0,rfl,Yh _,.inl ⟨rfl,λE hj=>(by omega),_,J⟩⟩
   obtain⟨f,rfl,hi,bZ⟩:=hrel;rcases bZ with⟨rfl,HQ,o,i⟩|⟨rfl,k,o,v,HK,i⟩
   ·have U:=HV.u.aD i.u.aP;have bR:=U.lt;obtain⟨a,dx,rb,ro,c2,M,V⟩:=U.aG;have p2:=i.u.df.cell 2 (by simp[dP]);have g:=i.u.df.cell 4 (by simp[dP]);simp only[dP,ir,iP,X6,X7]at p2 g;by_cases Q:f<b.aG.length
    ·obtain⟨rfl,b7⟩:=M (by omega);obtain⟨vt,vn,vs,vl,hR⟩:=V f Q;have au:=be.u _ (Ym Q);obtain⟨w,b8⟩:=cG.u _ (Ym Q);have a_:=rD Q;have bA:Hid (gV b fs name b.aG[f]=true->z=(⟨name,(b.aG[f].nd.map λn=>cW n (gB (b.aG[f].tg.headD []) name)).foldl dj [],some f,gB (b.aG[f].tg.headD []) name,false⟩,true)):=λh=>by have cK:ki b fs name=some f:=JQ (p:=λE=>gV b fs name (b.aG.getD E db)) HQ.u Q (by rw[a_];exact h);rw[r.u,cK];simp only[a_]
     have F:Hid (gV b fs name b.aG[f]=false->∀E,E<f+1->gV b fs name (b.aG.getD E db)=false):=λh=>iE (p:=λE=>gV b fs name (b.aG.getD E db)) HQ.u (by rw[a_];exact h);clear a_ V M;generalize b.aG[f]=d at*;have bD:d.tg.headD []=d.tg[0]'(Y5.2 w):=FO _;obtain⟨a1,k1,a2,k2,a3,k3,a4,k4,rfl,rfl,rfl,rfl⟩:=hR.jm;obtain⟨d0,d1,d2,d3,L,d5,a9,dA,co,ci⟩:=hR;have t1:(f:Int)<b.aG.length:=by omega
     have T:=(X5 wr.heap.size wr).alloc ax (.cells #[.slice a1 d.tg.length k1,.slice a2 d.nd.length k2,.slice a3 d.cs.length k3,.slice a4 d.cs.length k4,.bool d.cD,.bool d.ph] 147);have m:=aC (i.u.aD T);have aI:=aC (aF.bq wr 147 [.slice a1 d.tg.length k1,.slice a2 d.nd.length k2,.slice a3 d.cs.length k3,.slice a4 d.cs.length k4,.bool d.cD,.bool d.ph]);have ar:=aC (dA.aD T);obtain⟨am,aA,e0,bw⟩:∃am aA,a1=some ⟨am,aA,none⟩/\wr.χ am aA=some (σ (d.tg[0]'(Y5.2 w)))/\am <wr.heap.size:=by obtain⟨c6,c5,am,aA,cj,cL,cz⟩:=a9;cases cj;have bJ:=cL (Y5.2 w);have bK:=cz 0 (Y5.2 w);rw[ZH]at bK;exact⟨am,aA,bJ.1,bK,bJ.2⟩
     subst e0;have q0:=(T.cell (p:=η am aA) bw.2).trans bw.1;have cZ:(0:Int)<d.tg.length:=by have:=Y5.2 w;omega
     have cN:=aC (au.qY _ (Ym (Y5.2 w)));rw[bD]at bA b8;have ah:Hid (gV b fs name d=(d.cD&&(decide (0<d.cs.length)&&(decide (gB (d.tg[0]'(Y5.2 w)) name≠[])&&d.nd.all λn=>kF b fs (cW n (gB (d.tg[0]'(Y5.2 w)) name)))))):=aC (by unfold gV;rw[bD]);have c3:=i.u.lo;have c9:=au.cs;have ch:=aC au.fH;have cy:=au.nd;clear bD a9 dA co ci T bw i;generalize d.tg[0]'(Y5.2 w)=aE at*;cases l:d.cD with
     |false=>
      have O:gV b fs name d=false:=by rw[ah.u,l];rfl
      rw[l]at L m;go_wp2_with fail
      first
       |exact⟨⟨f+1,by go_num,by omega,.inl ⟨rfl,aC (F.u O),o,aC m.u⟩⟩,by simp only[aV];omega⟩
       |(go_roundw;exact⟨f+1,by go_num,by omega,.inl ⟨rfl,aC (F.u O),o,aC m.u⟩⟩;simp only[aV];omega)
     |true=>
      have cq:=b8 l;rw[l]at L m aI ar q0 ah;by_cases cd:d.cs.length=0
      ·have O:gV b fs name d=false:=by rw[ah.u,Y9 (by omega)];rfl
       have tc:((d.cs.length:Int)==0)=true:=by rw[cd];rfl
       clear cd;go_wp2_with fail
       first
        |exact⟨⟨f+1,by go_num,by omega,.inl ⟨rfl,aC (F.u O),o,aC m.u⟩⟩,by simp only[aV];omega⟩
        |(go_roundw;exact⟨f+1,by go_num,by omega,.inl ⟨rfl,aC (F.u O),o,aC m.u⟩⟩;simp only[aV];omega)
      have tc:((d.cs.length:Int)==0)=false:=by rw[Yi];omega
      rw[Y6 (show 0<d.cs.length by omega),Z7,Z7]at ah;have CS:=aC (λW'=>NW ⟨aE.toArray⟩ ⟨name.toArray⟩ W' (show aE.length<=_ by have:=cN.u;omega) (show name.length<=_ by omega) cq);have bl:Hid (∀W',γ 112 #[σ aE,σ name] W' (σ (gB aE name))):=CS;clear CS;have c8:(gB aE name).length<=name.length:=Hh aE name;generalize gB aE name=c at*;by_cases aT:c=[]
      ·have O:gV b fs name d=false:=by rw[ah.u,aT];rfl
       have cR:=aC aT;clear aT;go_upto_region 10 with(first|(go_at_call 112;refine κ (bl.u _) λw5 aw=>?_;have Y:=aC (m.u.aD aw);clear aw))
       have ts:(c==([]:hU))=true:=by rw[cR.u];rfl
       go_wp2_with fail
       first
        |exact⟨⟨f+1,by go_num,by omega,.inl ⟨rfl,aC (F.u O),o,aC Y.u⟩⟩,by simp only[aV];omega⟩
        |(go_roundw;exact⟨f+1,by go_num,by omega,.inl ⟨rfl,aC (F.u O),o,aC Y.u⟩⟩;simp only[aV];omega)
      have ts:(c==([]:hU))=false:=by simpa using aT
      rw[Y6 aT,Z7]at ah;go_upto_region 11 with(first|(go_at_call 112;refine κ (bl.u _) λw5 aw=>?_;have Y:=aC (m.u.aD aw);have K:=aC (aI.u.aD aw);have bU:=aC (ar.u.aD aw);clear aw))
      have y0:=K.u.cell 0 (by simp);have y1:=K.u.cell 1 (by simp);have y2:=K.u.cell 2 (by simp);have y3:=K.u.cell 3 (by simp);have y4:=K.u.cell 4 (by simp);have y5:=K.u.cell 5 (by simp);simp only[X6,X7]at y0 y1 y2 y3 y4 y5;have bt:=aC (PO (a1:=some ⟨am,aA,none⟩) (a3:=a3) (a4:=a4) (k1:=k1) (k3:=k3) (k4:=k4) (n1:=d.tg.length) (n3:=d.cs.length) (n4:=d.cs.length) (pt:=true) (ph:=d.ph) (HV.u.aD Y.u.aP) HS.u cp bU.u cy ch.u c (by omega));have c0:=K.u.lt;cases a':d.nd.all λn=>kF b fs (cW n c) with
      |false=>
       have O:gV b fs name d=false:=by rw[ah.u,a']
       go_wp2_with (go_at_call 113;refine bt.u.mono ?_;rintro e w6⟨aY,a8⟩;have bF:e=.returned (.tuple #[ς,.bool false]):=(by rcases aY with⟨-,h⟩|⟨h,-⟩;exact h;rw[a']at h;cases h);subst bF;have B:=aC (Y.u.aD a8);clear aY a8)
       first
        |exact⟨⟨f+1,by go_num,by omega,.inl ⟨rfl,aC (F.u O),o,aC B.u⟩⟩,by simp only[aV];omega⟩
        |(go_roundw;exact⟨f+1,by go_num,by omega,.inl ⟨rfl,aC (F.u O),o,aC B.u⟩⟩;simp only[aV];omega)
      |true=>
       have aM:=aC (bA.u (by rw[ah.u,a']));go_upto_region 13 with(first|(go_at_call 113;refine bt.u.mono ?_;rintro e w6⟨aY,a8⟩;obtain⟨vq,bF,bE⟩:∃vq,e=.returned (.tuple #[vq,.bool true])/\eV w6 (w5.heap.size+1) vq (d.nd.map λn=>cW n c):=(by rcases aY with⟨h,-⟩|⟨-,h⟩;(rw [a']at h;cases h);exact h);subst bF;obtain⟨aq,kq,rfl⟩:=dR bE;have bv:=aC bE;have B:=aC (Y.u.aD a8);clear aY a8 bE))
       rw[Yk] at*;have cg:=aC ((B.u.set ⟨name,[],some f,[],false⟩ (j:=2) (u:=ι f) (.inl ⟨rfl,rfl,rfl⟩)).set ⟨name,[],some f,c,false⟩ (j:=3) (u:=σ c) (.inr ⟨rfl,rfl,rfl⟩));have z2:=B.u.df.frozen 2;have s2:=B.u.df.cell 2 (by simp[dP]);have z3:=(B.u.df.set 2 (ι f)).frozen 3;have s3:=(B.u.df.set 2 (ι f)).cell 3 (by simp[dP]);simp only[dP,ir,iP,X6,X7,Y0,Zd]at s2 s3;have c_:=Y.u.lo;have b9:∀q,q≠y->((w6.ψ y 2 (ι f)).ψ y 3 (σ c)).heap[q]?=w6.heap[q]?:=λq s=>(Ys _ _ _ _ s).trans (Ys _ _ _ _ s);have bB:Hid (eV ((w6.ψ y 2 (ι f)).ψ y 3 (σ c)) (w5.heap.size+1) (.slice aq d.nd.length kq) (d.nd.map λn=>cW n c)):=aC (bI bv.u λq s=>b9 q (by have:=(Yt bv.u q s).1;omega));clear b9;clear bv B Y m y0 y1 y2 y3 y4 y5 aI K ar bU bt bl d0 d1 d2 d3 L d5 q0 p2 g c2 F bA;go_wp2_with fail
       clear z2 s2 z3 s3;unfold World.ψ at*;generalize (w6.setCell (η y 2) (ι f)).setCell (η y 3) (σ c)=w7 at*;have cI:=aC (cg.u.Wm rfl);have bO:∀q,(Value.slice aq d.nd.length kq).ownBlock=some q->q<w7.heap.size/\y<q:=λq s=>⟨(Yt bB.u q s).2,by have:=(Yt bB.u q s).1;omega⟩;have bQ:=aC bO;clear bO cg;go_loopw [13] (λR wz=>∃(k:Nat) (v:az),R=ι k/\k<=d.nd.length/\Hid (jr W y w7.heap.size ⟨name,((d.nd.map λn=>cW n c).take k).foldl dj [],some f,c,false⟩ v wz)/\Hid (eV wz (w5.heap.size+1) (.slice aq d.nd.length kq) (d.nd.map λn=>cW n c))) (λR _=>d.nd.length-aV R)
       case atStart=>exact⟨0,_,rfl,Yh _,cI,bB⟩
       obtain⟨k,v,rfl,cw,D,b'⟩:=hrel;by_cases bc:k<d.nd.length
       ·have bN:k<(d.nd.map λn=>cW n c).length:=by rw[Yk];exact bc
        have tk:(k:Int)<d.nd.length:=by omega
        obtain⟨cv,cH,bL,bY,bd,aO,aX⟩:=b'.u.sl;rw[Yk]at bd aO;cases bd;obtain⟨rfl,-⟩:=aO (by omega);have l0:=aX k bN;have aU:Hid (((d.nd.map λn=>cW n c).take (k+1)).foldl dj []=dj (((d.nd.map λn=>cW n c).take k).foldl dj []) (d.nd.map λn=>cW n c)[k]):=aC (by rw[Yn bN,r'];rfl);have aZ:=sK ((d.nd.map λn=>cW n c).take k) [];rw[YL,Yk,Yr]at aZ;unfold aK at l0;generalize (d.nd.map λn=>cW n c)[k]=lk at*;have bo:=D.u.df.cell 1 (by simp[dP]);simp only[dP,X6,X7]at bo;obtain⟨av,cM,rfl⟩:=dR D.u.row;have A:=D.u.ze;have bC:=aC (GM A.row A.lo.2 (by show _<=_;simp only;omega) lk);have bk:=aC (λ(w8:ay) (v':az) (ho:eV w8 w7.heap.size v' (dj (((d.nd.map λn=>cW n c).take k).foldl dj []) lk)) hg=>A.push (n:=lk) (v':=v') ho hg);have cJ:Hid (eV wr.drew (w5.heap.size+1) (.slice (some (η bL bY)) d.nd.length kq) (d.nd.map λn=>cW n c)):=aC (bI b'.u λ_ _=>rfl);clear aO aX aZ A;go_wp2_with fail
        go_region_with (first|(go_at_call 114;refine bC.u.mono ?_;rintro e w8⟨v8,rfl,ap,aS,-⟩;obtain⟨r1,C,r3,r4⟩:=bk.u w8 v8 ap aS;obtain⟨va,vc,rfl⟩:=dR ap;have a5:=aC r1;have m1:=C.cell 1 (by simp[dP]);have m2:=C.frozen 1;have bV:=aC (bI cJ.u λq s=>r3 q (bQ.u q s).1 (by have:=(bQ.u q s).2;omega));clear r1 C r3 r4 ap aS))
        all_goals go_wp2_with fail
        all_goals first
         |exact⟨⟨k+1,_,by go_num,by omega,by rw[aU.u];exact a5,bV⟩,by simp only[aV];omega⟩
         |(go_roundw;exact⟨k+1,_,by go_num,by omega,by rw[aU.u];exact a5,bV⟩;simp only[aV];omega)
       have tk:¬(k:Int)<d.nd.length:=by omega
       have HT:Hid ((d.nd.map λn=>cW n c).take k=d.nd.map λn=>cW n c):=aC (YF (by rw[Yk];omega));rw[HT.u]at D;go_wp2_with fail
       first
        |exact⟨⟨f+1,by go_num,by omega,.inr ⟨by rw[aM.u],f,_,v,aC (by rw[aM.u]),aC (by rw[aM.u];exact D.u)⟩⟩,by simp only[aV];omega⟩
        |(go_roundw;exact⟨f+1,by go_num,by omega,.inr ⟨by rw[aM.u],f,_,v,aC (by rw[aM.u]),aC (by rw[aM.u];exact D.u)⟩⟩;simp only[aV];omega)
    have t1:¬(f:Int)<b.aG.length:=by omega
    have HP:Hid (ki b fs name=none):=aC (by unfold ki;exact Kg HQ.u Q);have HX:Hid (z=(⟨name,[],none,[],false⟩,I)):=aC (by rw[r.u,HP.u]);clear V M;go_wp2_with fail
    go_meet
    exact⟨by rw[HX.u],o,_,by rw[HX.u];exact i⟩
   have U:=HV.u.aD i.u.aP;have bR:=U.lt;obtain⟨a,dx,rb,ro,c2,M,V⟩:=U.aG;have p2:=i.u.df.cell 2 (by simp[dP]);simp only[dP,ir,X6,X7]at p2;rw[HK.u]at p2;simp only[iP]at p2;have t2:¬(k:Int)<0:=by omega
   clear M V;by_cases Q:f<b.aG.length
   ·have t1:(f:Int)<b.aG.length:=by omega
    go_wp2_with fail
    go_meet
    exact⟨rfl,o,v,i⟩
   have t1:¬(f:Int)<b.aG.length:=by omega
   go_wp2_with fail
   go_meet
   exact⟨rfl,o,v,i⟩
  rw[Yb hc]at r;have U:=HV.u.aD J.u.aP;have bR:=U.lt;obtain⟨a,dx,rb,ro,c2,M,V⟩:=U.aG;have p2:=J.u.df.cell 2 (by simp[dP]);have g:=J.u.df.cell 4 (by simp[dP]);simp only[dP,ir,X6,X7]at p2 g;clear M V;go_wp2_with fail
  go_loopw [7,8] (λP H wr=>H=ι 0/\P=.bool I/\wr=wc) (λ_ H _=>0)
  case atStart=>exact⟨rfl,rfl,rfl⟩
  obtain⟨rfl,rfl,rfl⟩:=hrel;by_cases c7:b.aG.length=0
  ·have t1:¬(0:Int)<b.aG.length:=by omega
   go_wp2_with fail
   go_meet
   exact⟨by rw[r.u],_,_,by rw[r.u];exact J⟩
  have t1:(0:Int)<b.aG.length:=by omega
  cases bP:ph with
  |true=>
   rw[bP]at g;by_cases cl:iP X<0
   ·go_wp2_with fail
    go_meet
    exact⟨by rw[r.u],_,_,by rw[r.u];exact J⟩
   go_wp2_with fail
   go_meet
   exact⟨by rw[r.u],_,_,by rw[r.u];exact J⟩
  |false=>
   have cl:¬iP X<0:=by
    cases cn:X with
    |none=>exact absurd ⟨cn,bP⟩ hc
    |some n=>simp only[iP];omega
   go_wp2_with fail
   go_meet
   exact⟨by rw[r.u],_,_,by rw[r.u];exact J⟩
 obtain⟨rfl,bj,v1,cb⟩:=hcut;have ar:Hid (de b fs name=({z.1 with aH:=mG b name z.1.aH},z.2)):=aC (by rw[Vh,bm.u]);have cm:z.1.aH.length<=2000:=by rw[<-bm.u];exact Vy (λd hr=>(be.u d hr).nd)
 have bT:Hid (∀f,((b.aG.take f).foldl (λa d=>if dz name d=true then d.nd.foldl dj a else a) z.1.aH).length<=130000):=aC (λf=>by have h1:=FB (name:=name) (b.aG.take f) z.1.aH λd hr=>(be.u d (adQ hr)).nd;rw[YL]at h1;omega);obtain⟨x,xf⟩:=z;simp only at ar bT cb;clear r bm cm J;go_wp2_with fail
 go_loopw [14] (λH wr=>∃(f:Nat) (v:az),H=ι f/\f<=b.aG.length/\Hid (jr W y bj {x with aH:=(b.aG.take f).foldl (λa d=>if dz name d=true then d.nd.foldl dj a else a) x.aH} v wr)) (λH _=>b.aG.length-aV H)
 case atStart=>exact⟨0,v1,rfl,Yh _,cb⟩
 obtain⟨f,v,rfl,hi,i⟩:=hrel;obtain⟨a,dx,rb,ro,ce,M,V⟩:=HV.u.aG;have c2:=(i.u.aP.cell (p:=η bb 2) cC).trans ce;clear ce;by_cases Q:f<b.aG.length
 ·obtain⟨rfl,b7⟩:=M (by omega);obtain⟨vt,vn,vs,vl,bn⟩:=V f Q;have au:=be.u _ (Ym Q);have aL:Hid ((b.aG.take (f+1)).foldl (λa d=>if dz name d=true then d.nd.foldl dj a else a) x.aH=if dz name b.aG[f]=true then b.aG[f].nd.foldl dj ((b.aG.take f).foldl (λa d=>if dz name d=true then d.nd.foldl dj a else a) x.aH) else(b.aG.take f).foldl (λa d=>if dz name d=true then d.nd.foldl dj a else a) x.aH):=aC (by rw[Yn Q,r'];rfl);have c1:=bT.u f;clear V M;generalize b.aG[f]=d at*;generalize (b.aG.take f).foldl (λa d=>if dz name d=true then d.nd.foldl dj a else a) x.aH=G at*;have hR:=bn.aD b7 i.u.aP;have cO:=aC bn.nd;obtain⟨a1,k1,a2,k2,a3,k3,a4,k4,rfl,rfl,rfl,rfl⟩:=hR.jm;obtain⟨d0,d1,d2,d3,L,d5,a9,-,-,-⟩:=hR;have t1:(f:Int)<b.aG.length:=by omega
  have T:=(X5 wr.heap.size wr).alloc ax (.cells #[.slice a1 d.tg.length k1,.slice a2 d.nd.length k2,.slice a3 d.cs.length k3,.slice a4 d.cs.length k4,.bool d.cD,.bool d.ph] 147);have t:=aC (a9.xk (by have:=au.tg;omega) name _ T);have m:=aC (i.u.aD T);have aI:=aC (aF.bq wr 147 [.slice a1 d.tg.length k1,.slice a2 d.nd.length k2,.slice a3 d.cs.length k3,.slice a4 d.cs.length k4,.bool d.cD,.bool d.ph]);have c':=au.nd;have ck:=i.u.lo;clear a9 bn T i;cases aN:eo name d.tg with
  |false=>
   have S:Hid ((b.aG.take (f+1)).foldl (λa d=>if dz name d=true then d.nd.foldl dj a else a) x.aH=G):=aC (by rw[aL.u,Yb (by simp[dz,aN])]);go_wp2_with (go_at_call 115;refine t.u.mono ?_;rintro e w3⟨rfl,rfl⟩;rw[aN])
   first
    |exact⟨⟨f+1,v,by go_num,by omega,aC (by rw[S.u];exact m.u)⟩,by simp only[aV];omega⟩
    |(go_roundw;exact⟨f+1,v,by go_num,by omega,aC (by rw[S.u];exact m.u)⟩;simp only[aV];omega)
  |true=>
   cases l:d.cD with
   |true=>
    rw[l]at L t m;have S:Hid ((b.aG.take (f+1)).foldl (λa d=>if dz name d=true then d.nd.foldl dj a else a) x.aH=G):=aC (by rw[aL.u,Yb (by simp[dz,l])]);go_wp2_with (go_at_call 115;refine t.u.mono ?_;rintro e w3⟨rfl,rfl⟩;rw[aN])
    first
     |exact⟨⟨f+1,v,by go_num,by omega,aC (by rw[S.u];exact m.u)⟩,by simp only[aV];omega⟩
     |(go_roundw;exact⟨f+1,v,by go_num,by omega,aC (by rw[S.u];exact m.u)⟩;simp only[aV];omega)
   |false=>
    cases Z:d.ph with
    |true=>
     rw[l]at L t m;rw[Z]at d5 t m;have S:Hid ((b.aG.take (f+1)).foldl (λa d=>if dz name d=true then d.nd.foldl dj a else a) x.aH=G):=aC (by rw[aL.u,Yb (by simp[dz,Z])]);go_wp2_with (go_at_call 115;refine t.u.mono ?_;rintro e w3⟨rfl,rfl⟩;rw[aN])
     first
      |exact⟨⟨f+1,v,by go_num,by omega,aC (by rw[S.u];exact m.u)⟩,by simp only[aV];omega⟩
      |(go_roundw;exact⟨f+1,v,by go_num,by omega,aC (by rw[S.u];exact m.u)⟩;simp only[aV];omega)
    |false=>
     rw[l]at L t m aI;rw[Z]at d5 t m aI;have S:Hid ((b.aG.take (f+1)).foldl (λa d=>if dz name d=true then d.nd.foldl dj a else a) x.aH=d.nd.foldl dj G):=aC (by rw[aL.u,Yd (by simp[dz,aN,l,Z])]);go_wp2_with (go_at_call 115;refine t.u.mono ?_;rintro e w3⟨rfl,rfl⟩;rw[aN])
     generalize cx:wr.alloc (.cells #[.slice a1 d.tg.length k1,.slice a2 d.nd.length k2,.slice a3 d.cs.length k3,.slice a4 d.cs.length k4,.bool false,.bool false] 147)=w7 at*;generalize cY:wr.heap.size=rb7 at*;clear cx t d0 d1 d2 d3 L d5 c2;go_loopw [17] (λR wz=>∃(k:Nat) (v:az),R=ι k/\k<=d.nd.length/\Hid (jr W y bj {x with aH:=(d.nd.take k).foldl dj G} v wz)/\Hid (aF wz rb7 147 [.slice a1 d.tg.length k1,.slice a2 d.nd.length k2,.slice a3 d.cs.length k3,.slice a4 d.cs.length k4,.bool false,.bool false])) (λR _=>d.nd.length-aV R)
     case atStart=>exact⟨0,v,rfl,Yh _,m,aI⟩
     obtain⟨k,v,rfl,cw,D,bg⟩:=hrel;have ct:=bg.u.cell 1 (by simp);simp only[X6,X7]at ct;by_cases bc:k<d.nd.length
     ·have tk:(k:Int)<d.nd.length:=by omega
      obtain⟨cv,cH,bL,bY,bd,aO,aX⟩:=cO.u.aD D.u.aP;cases bd;obtain⟨rfl,-⟩:=aO (by omega);have l0:=aX k bc;have aU:Hid ((d.nd.take (k+1)).foldl dj G=dj ((d.nd.take k).foldl dj G) d.nd[k]):=aC (by rw[Yn bc,r'];rfl);have aZ:=sK (d.nd.take k) G;rw[YL]at aZ;unfold aK at l0;generalize d.nd[k]=lk at*;have bo:=D.u.df.cell 1 (by simp[dP]);simp only[dP,X6,X7]at bo;have cu:=aC (sO bg.u D.u.row (by decide));have cB:=bg.u.lt;obtain⟨av,cM,rfl⟩:=dR D.u.row;have A:=D.u.ze;have bC:=aC (GM A.row A.lo.2 (by show _<=_;simp only;omega) lk);have bk:=aC (λ(w8:ay) (v':az) (ho:eV w8 bj v' (dj ((d.nd.take k).foldl dj G) lk)) hg=>A.push (n:=lk) (v':=v') ho hg);clear aO aX aZ A;go_wp2_with fail
      go_region_with (first|(go_at_call 114;refine bC.u.mono ?_;rintro e w8⟨v8,rfl,ap,aS,-⟩;obtain⟨r1,C,-,-⟩:=bk.u w8 v8 ap aS;have bS:=aC (PS (nb:=y) (u:=v8) aS cB cu.u (by omega) bg.u);obtain⟨va,vc,rfl⟩:=dR ap;have a5:=aC r1;have m1:=C.cell 1 (by simp[dP]);have m2:=C.frozen 1;clear r1 C ap aS))
      all_goals go_wp2_with fail
      all_goals first
       |exact⟨⟨k+1,_,by go_num,by omega,by rw[aU.u];exact a5,bS⟩,by simp only[aV];omega⟩
       |(go_roundw;exact⟨k+1,_,by go_num,by omega,by rw[aU.u];exact a5,bS⟩;simp only[aV];omega)
     have tk:¬(k:Int)<d.nd.length:=by omega
     have HT:Hid (d.nd.take k=d.nd):=aC (YF (by omega));rw[HT.u]at D;go_wp2_with fail
     first
      |exact⟨⟨f+1,v,by go_num,by omega,aC (by rw[S.u];exact D.u)⟩,by simp only[aV];omega⟩
      |(go_roundw;exact⟨f+1,v,by go_num,by omega,aC (by rw[S.u];exact D.u)⟩;simp only[aV];omega)
 have t1:¬(f:Int)<b.aG.length:=by omega
 have aL:Hid ((b.aG.take f).foldl (λa d=>if dz name d=true then d.nd.foldl dj a else a) x.aH=mG b name x.aH):=aC (by rw[YF (by omega)];rfl);rw[aL.u]at i;have HB:=aC i.u.aP;have b_:=aC i.u.row;have ck:=i.u.lo;obtain⟨av,R,rfl⟩:=dR i.u.row;have b0:=i.u.df.cell 0 (by simp[dP]);have b1:=i.u.df.cell 1 (by simp[dP]);have b2:=i.u.df.cell 2 (by simp[dP]);have b3:=i.u.df.cell 3 (by simp[dP]);have b4:=i.u.df.cell 4 (by simp[dP]);have b5:=i.u.df.cell 5 (by simp[dP]);have b6:=i.u.df.cell 6 (by simp[dP]);have a6:=aC i.u.cS;clear M V i;unfold DG at a6;generalize da:mG b name x.aH=G at*;simp only[dP,ir,aK,X6,X7]at b0 b1 b2 b3 b4 b5 b6;have h1:=a6.u.set 0 (σ x.name);have h2:=h1.set 1 (.slice av G.length R);have h3:=h2.set 2 (ι (iP x.gW));have h4:=h3.set 3 (σ x.stem);have h5:=h4.set 4 (.bool x.ph);have h6:=h5.set 5 (.bool false);have h7:=h6.set 6 (ς);have g0:=a6.u.frozen 0;have r0:=a6.u.cell 0 (by simp);have g1:=h1.frozen 1;have r1:=h1.cell 1 (by simp);have g2:=h2.frozen 2;have C:=h2.cell 2 (by simp);have g3:=h3.frozen 3;have r3:=h3.cell 3 (by simp);have g4:=h4.frozen 4;have r4:=h4.cell 4 (by simp);have g5:=h5.frozen 5;have r5:=h5.cell 5 (by simp);have g6:=h6.frozen 6;have r6:=h6.cell 6 (by simp);have o0:=h7.cell 0 (by simp);have o1:=h7.cell 1 (by simp);have o2:=h7.cell 2 (by simp);have o3:=h7.cell 3 (by simp);have o4:=h7.cell 4 (by simp);have o5:=h7.cell 5 (by simp);have o6:=h7.cell 6 (by simp);simp only[Zd,Y0,X6,X7]at r0 r1 C r3 r4 r5 r6 o0 o1 o2 o3 o4 o5 o6;clear h1 h2 h3 h4 h5 h6 h7 a6;go_wp2_with fail
 have aB:=cQ b_.u (N:=W.heap.size) (by omega);refine Yw (v:=.tuple #[.agg (dP (de b fs name).1 (.slice av G.length R)).toArray,.bool (de b fs name).2]) ?_ rfl ⟨_,rfl,?_,?_⟩
 ·rw[ar.u];simp[results,results70,go_sem,o0,o1,o2,o3,o4,o5,o6,dP,ir,aK]
 ·rw[ar.u];simp only;have h8:=cP (cP (cP (cP (cP (cP (cP b_.u aB 0 (σ x.name)) aB 1 (.slice av G.length R)) aB 2 (ι (iP x.gW))) aB 3 (σ x.stem)) aB 4 (.bool x.ph)) aB 5 (.bool false)) aB 6 (ς);exact TQ h8 (by omega)
 exact(((((((HB.u.setCell (p:=η W.heap.size 0) ax _).setCell (p:=η W.heap.size 1) ax _).setCell (p:=η W.heap.size 2) ax _).setCell (p:=η W.heap.size 3) ax _).setCell (p:=η W.heap.size 4) ax _).setCell (p:=η W.heap.size 5) ax _).setCell (p:=η W.heap.size 6) ax _)
section
variable {X:ay}{t:Wk}
def fN.a_(h:fN L0 W wb bb fs b vN vO xs t er)(a:W.heap[L]?=some (Obj.cells R 9 Q)):L<W.heap.size/\L≠wb/\some L≠vN.ownBlock/\some L≠vO.ownBlock:=by
 refine⟨(X8.1 a).1,λe=>?_,λe=>?_,λe=>?_⟩
 ·subst e;have j:=h.row;unfold aF at j;rw[j]at a;simp at a
 ·obtain⟨d,_⟩|⟨g,c,m,d,_,f,_⟩:=h.aT.2
  ·rw[d]at e;cases e
  rw[d]at e;have i:L=g:=by simpa [Value.ownBlock]using e
  subst i;rw[f]at a;simp at a
 obtain⟨d,_⟩|⟨g,c,m,d,_,f,_⟩:=h.aY.2
 ·rw[d]at e;cases e
 rw[d]at e;have i:L=g:=by simpa [Value.ownBlock]using e
 subst i;rw[f]at a;simp at a
def fN.yR(h:fN L0 W wb bb fs b vN vO xs t er)(a:vO.ownBlock=some k):some k≠vN.ownBlock:=λe=>by
 obtain c|c:=mc h.aY h.aT (by decide)
 ·rw[a]at c;cases c
 exact c (a.trans e)
def fN.cH(h:fN L0 W wb bb fs b vN vO xs t er)(e:Nat):fN L0 (W.ψ wb 3 (ι e)) wb bb fs b vN vO xs t e/\jM W (W.ψ wb 3 (ι e)) wb vN vO vN vO:=by
 have a:∀q,q≠wb->(W.ψ wb 3 (ι e)).heap[q]?=W.heap[q]?:=λq m=>Ys _ _ _ _ m;have j:W.heap.size<=(W.ψ wb 3 (ι e)).heap.size:=Zp (by simp);refine⟨⟨h.row.set 3 _,h.bW,h.bS.setCell (p:=η wb 3) h.lt _,h.lt,h.nx,bI h.aT λk d=>a k ?_,bI h.aY λk d=>a k ?_,λx f=>(h.aH x f).1.kept (h.aH x f).2 (λq _ _ n=>a q (h.a_ n).2.1) j⟩,⟨(X5 _ _).setCell (p:=η wb 3) ax _,λq _ i _ _=>a q i,.inl rfl,.inl rfl⟩⟩
 ·have:=(Yt h.aT k d).1;omega
 have:=(Yt h.aY k d).1;omega
def fN.push(h:fN L0 W wb bb fs b vN vO xs t er)(H:fO W vp el.aH/\sA W vp)(a:W.grownBy X vN.ownBlock)(z:X.ownsRow (wb+1) 116 7 dI (xs.length+1) (xs.flatMap ky++ky ((el,false),vp)))(M:dI.ownBlock=vN.ownBlock\/∃q,dI.ownBlock=some q/\W.heap.size<=q):
 fN L0 (X.ψ wb 1 dI) wb bb fs b dI vO (xs++[((el,false),vp)]) (fq t el) er/\jM W (X.ψ wb 1 dI) wb vN vO dI vO/\aF X wb 43 [π bb,vN,vO,ι er,ι 0]:=by
 have n:=h.lt;have I:=h.row.lt;have D:∀q,q≠wb->(X.ψ wb 1 dI).heap[q]?=X.heap[q]?:=λq N=>Ys _ _ _ _ N;have G:X.heap.size<=(X.ψ wb 1 dI).heap.size:=Zp (by simp);have J:=cQ h.aT (t' _);have E:aF X wb 43 [π bb,vN,vO,ι er,ι 0]:=(a.block _ I J).trans h.row;have m:∀q,q<W.heap.size->q≠wb->some q≠vN.ownBlock->(X.ψ wb 1 dI).heap[q]?=W.heap[q]?:=λq j f o=>(D q f).trans (a.block q j o);have r:Below wb W X:=⟨a.os,a.tape,a.output,a.size,λk i=>a.block k (by omega) (cQ h.aT (by omega))⟩;have u:∀(q:Nat) cs fz,W.heap[q]?=some (Obj.cells cs 9 fz)->(X.ψ wb 1 dI).heap[q]?=W.heap[q]?:=λq _ _ j=>by obtain⟨Q,O,R,-⟩:=h.a_ j;exact m q Q O R
 refine⟨⟨E.set 1 dI,h.bW,(h.bS.trans (r.mono n)).setCell (p:=η wb 1) n _,n,?_,?_,bI h.aY λk i=>?_,λy d=>?_⟩,⟨(r.setCell (p:=η wb 1) ax _),λq j f o _=>m q j f o,M,.inl rfl⟩,E⟩
 ·rw[Yy,h.nx];rfl
 ·rw[X4,Zq];refine bI (by simpa using z) λk i=>D k (by have:=(Yt z k i).1;omega)
 ·have f:=Yt h.aY k i;exact m k f.2 (by omega) (h.yR i)
 obtain d|d:=Yv.1 d
 ·exact(h.aH y d).1.kept (h.aH y d).2 u (Ye a.size G)
 rw[Yc.1 d];exact H.1.kept H.2 u (Ye a.size G)
theorem JA:∀(xs:List ((Nr×Bool)×az)) (k:Nat) (a:k<xs.length),(xs.flatMap ky).set (k*7+5) (.bool true)=(xs.set k ((xs[k].1.1,true),xs[k].2)).flatMap ky
 |x::d,0,_=>by rw[Zd,YA,YA,adR _ _ (by simp[ky])];rfl
 |x::d,k+1,a=>by
  have f:=JA d k (by simpa using a);have e:(k+1)*7+5=(ky x).length+(k*7+5):=by simp[ky];omega
  rw[Y0,YA,YA,e,Zc _ _ (by omega),ZP,f];simp
def fN.cL(h:fN L0 W wb bb fs b (ξ L xs.length dx) vO xs t er)(d:k<xs.length):
 fN L0 (W.ψ L (k*7+5) (.bool true)) wb bb fs b (ξ L xs.length dx) vO (xs.set k ((xs[k].1.1,true),xs[k].2)) ⟨t.aT.set k ((cA t k).1,true),t.aY⟩ er/\jM W (W.ψ L (k*7+5) (.bool true)) wb (ξ L xs.length dx) vO (ξ L xs.length dx) vO:=by
 have n:=h.lt;have H:=(Yt h.aT L rfl).1;have a:∀q,q≠L->(W.ψ L (k*7+5) (.bool true)).heap[q]?=W.heap[q]?:=λq f=>Ys _ _ _ _ f;have u:W.heap.size<=(W.ψ L (k*7+5) (.bool true)).heap.size:=Zp (by simp);have v:t.aT[k]?=some xs[k].1:=by rw[<-h.nx,Za,X9 d];rfl
 have m:(cA t k).1=xs[k].1.1:=by unfold cA;rw[Yf,v];rfl
 have i:=sR h.aT (k*7+5) (.bool true);rw[JA xs k d]at i;refine⟨⟨(a _ (by omega)).trans h.row,h.bW,h.bS.setCell (p:=η L (k*7+5)) (show L0.heap.size<=L by omega) _,n,?_,?_,bI h.aY λq f=>a q ?_,λy o=>?_⟩,⟨(X5 _ _).setCell (p:=η L (k*7+5)) (show wb<=L by omega) _,λq _ _ r _=>a q (λe=>r (by rw[e];rfl)),.inl rfl,.inl rfl⟩⟩
 ·rw[afp,h.nx,m]
 ·rw[Y7];exact i
 ·intro e;exact h.yR f (by rw[e];rfl)
 have x:∃z∈xs,z.2=y.2/\z.1.1=y.1.1:=by
  rcases HJ o with q|q
  ·exact⟨y,q,rfl,rfl⟩
  exact⟨xs[k],Ym d,by rw[q],by rw[q]⟩
 obtain⟨z,j,E,D⟩:=x;rw[<-E,<-D];exact(h.aH z j).1.kept (h.aH z j).2 (λq _ _ G=>a q (λe=>(h.a_ G).2.2.1 (by rw[e];rfl))) u
def fN.d_(h:fN L0 W wb bb fs b vN vO xs t er){k:Nat}(a:W.grownBy X vO.ownBlock)(o:X.ownsRow (wb+1) 3 1 eq (t.aY.length+1) ((t.aY.map λ(J:Nat)=>ι J)++[ι k]))(D:eq.ownBlock=vO.ownBlock\/∃q,eq.ownBlock=some q/\W.heap.size<=q):
 fN L0 (X.ψ wb 2 eq) wb bb fs b vN eq xs ⟨t.aT,t.aY++[k]⟩ er/\jM W (X.ψ wb 2 eq) wb vN vO vN eq/\aF X wb 43 [π bb,vN,vO,ι er,ι 0]:=by
 have m:=h.lt;have x:=h.row.lt;have u:∀q,q≠wb->(X.ψ wb 2 eq).heap[q]?=X.heap[q]?:=λq E=>Ys _ _ _ _ E;have I:X.heap.size<=(X.ψ wb 2 eq).heap.size:=Zp (by simp);have z:=cQ h.aY (t' _);have v:aF X wb 43 [π bb,vN,vO,ι er,ι 0]:=(a.block _ x z).trans h.row;have j:∀q,q<W.heap.size->q≠wb->some q≠vO.ownBlock->(X.ψ wb 2 eq).heap[q]?=W.heap[q]?:=λq d f H=>(u q f).trans (a.block q d H);have n:Below wb W X:=⟨a.os,a.tape,a.output,a.size,λk i=>a.block k (by omega) (cQ h.aY (by omega))⟩;refine⟨⟨v.set 2 eq,h.bW,(h.bS.trans (n.mono m)).setCell (p:=η wb 2) m _,m,h.nx,bI h.aT λk i=>?_,?_,λy r=>(h.aH y r).1.kept (h.aH y r).2 (λq _ _ d=>j q (h.a_ d).1 (h.a_ d).2.1 (h.a_ d).2.2.2) (Ye a.size I)⟩,⟨(n.setCell (p:=η wb 2) ax _),λq d f _ G=>j q d f G,.inl rfl,D⟩,v⟩
 ·have f:=Yt h.aT k i;exact j k f.2 (by omega) (λe=>h.yR e.symm (by rw[i]))
 rw[X4,Yy];exact bI o λk i=>u k (by have:=(Yt o k i).1;omega)
end
def WZ(k:ay)(c i:Nat)(j:fy)(b:Bk)(h g:az)(q:Nat×Wk)(W:ay)(e:Ending)(W':ay):Prop:=(∃v,e=.returned v)/\∃d f a,fN k W' c i j b d f a q.2 q.1/\jM W W' c h g d f
def Tryz.Ra:(Tryz.prog.info? 116).map (λa=>(a.zero,a.size,a.bytes))=some (some (.agg #[ε,ς,ι 0,ε,.bool false,.bool false,ς]),7,96):=by kernel_rfl
theorem Kh{α:Type}{f:α->f'}(h:∀x,(f x).length=k):∀(xs:List α) (d a:Nat) (y:α) (u:az) (n:d<xs.length),(f xs[d]).set a u=f y->a<k->(xs.flatMap f).set (d*k+a) u=(xs.set d y).flatMap f
 |x::m,0,a,y,u,_,i,j=>by rw[Zd,YA,YA,L1,YO,adR _ _ (by rw[h];exact j)];exact Yg (·++_) i
 |x::m,d+1,a,y,u,n,i,j=>by
  have e:(d+1)*k+a=(f x).length+(d*k+a):=by rw[h,l5];omega
  rw[Y0,YA,YA,e,Zc _ _ (by omega),ZP,Kh h m d a y u (by simpa using n) (by simpa using i) j]
structure Wn where
 x:Nr
 ov:Bool
 vn:az
 cs:fv
 vc:az
abbrev j4:=List Wn
def iW:Wn:=⟨Ly,false,ς,[],ς⟩
def jd(y:Wn):f':=[aK y.x.name,y.vn,ir y.x.gW,aK y.x.stem,.bool y.x.ph,.bool y.ov,y.vc]
structure eY(L0 W:ay)(wb bb:Nat)(fs:fy)(b:Bk)(vN vO:az)(os:f')(k:Nat)(ys:j4)(d_:gb)(er ln:Nat):Prop where
 row:aF W wb 43 [π bb,vN,vO,dC er,dC ln]
 bW:nL L0 bb fs b
 bS:μ L0 W
 lt:L0.heap.size<=wb
 aT:W.ownsRow (wb+1) 116 7 vN ys.length (ys.flatMap jd)
 aY:mr W vO d_
 oz:Fz W wb os vO
 aH:∀y∈ys,fO W y.vn y.x.aH/\Fz W wb os y.vn
 aI:∀j (h:j<ys.length),j≠k->fO W ys[j].vc ys[j].cs/\Fz W wb os ys[j].vc
def Fz.mono(h:Fz W bb z vp)(i:∀u∈os',u.ownBlock=none\/u∈z):Fz W bb os' vp:=λq j=>by
 have⟨m,a,f⟩:=h q j;refine⟨m,a,λu d e=>?_⟩;obtain b|b:=i u d
 ·rw[b]at e;cases e
 exact f u b e
section
variable {X:ay}{os:f'}{ys:j4}{d_:gb}
def eY.zo(h:eY L0 W wb bb fs b vN vO os k ys d_ er ln)(a:∀u∈os',u.ownBlock=none\/u∈os):eY L0 W wb bb fs b vN vO os' k ys d_ er ln:=⟨h.row,h.bW,h.bS,h.lt,h.aT,h.aY,h.oz.mono a,λy f=>⟨(h.aH y f).1,(h.aH y f).2.mono a⟩,λi d j=>⟨(h.aI i d j).1,(h.aI i d j).2.mono a⟩⟩
def eY.out(h:eY L0 W wb bb fs b vN vO os ys.length ys d_ er ln)(k:Nat):eY L0 W wb bb fs b vN vO os k ys d_ er ln:=⟨h.row,h.bW,h.bS,h.lt,h.aT,h.aY,h.oz,h.aH,λd a _=>h.aI d a (by omega)⟩
def eY.ret(h:eY L0 W wb bb fs b vN vO os k ys d_ er ln)(a:∀a:k<ys.length,fO W ys[k].vc ys[k].cs/\Fz W wb os ys[k].vc):eY L0 W wb bb fs b vN vO os ys.length ys d_ er ln:=
 ⟨h.row,h.bW,h.bS,h.lt,h.aT,h.aY,h.oz,h.aH,λf d _=>by
  by_cases e:f=k
  ·subst e;exact a d
  exact h.aI f d e⟩
def eY.aD(h:eY L0 W wb bb fs b vN vO os k ys d_ er ln)(a:μ W X):eY L0 X wb bb fs b vN vO os k ys d_ er ln:=by have d:ej W X wb os os:=ej.bq a (lg h.row.lt);exact⟨h.row.aD a,h.bW,h.bS.tr a,h.lt,bI h.aT λk n=>a.block k (Yt h.aT k n).2,h.aY.aD a,h.oz.cY d,λy i=>⟨(h.aH y i).1.aD a,(h.aH y i).2.cY d⟩,λj f m=>⟨(h.aI j f m).1.aD a,(h.aI j f m).2.cY d⟩⟩
def eY.bh(h:eY L0 W wb bb fs b vN vO os k ys d_ er ln)(a o r n:Nat)(i:(a=3/\o=n/\r=ln)\/(a=4/\o=er/\r=n)):eY L0 (W.ψ wb a (dC n)) wb bb fs b vN vO os k ys d_ o r:=by
 have u:∀q,q≠wb->(W.ψ wb a (dC n)).heap[q]?=W.heap[q]?:=λq f=>Ys _ _ _ _ f;have x:Below wb W (W.ψ wb a (dC n)):=(X5 _ _).setCell (p:=η wb a) ax _;have d:ej W (W.ψ wb a (dC n)) wb os os:=⟨x,λq _ z _=>u q z,λv D _ f=> .inr ⟨v,D,f⟩⟩;refine⟨?_,h.bW,h.bS.trans (x.mono h.lt),h.lt,bI h.aT λq f=>u q ?_,h.aY.cY h.oz d,h.oz.cY d,λy j=>⟨(h.aH y j).1.cY (h.aH y j).2 d,(h.aH y j).2.cY d⟩,λa i m=>⟨(h.aI a i m).1.cY (h.aI a i m).2 d,(h.aI a i m).2.cY d⟩⟩
 ·have E:=h.row.set a (dC n);rcases i with⟨rfl,rfl,rfl⟩|⟨rfl,rfl,rfl⟩<;>exact E
 have:=(Yt h.aT q f).1;omega
def eY.dg(D:ys.length=wk)(h:eY L0 W wb bb fs b (ξ L wk dx) vO [ξ L wk dx,r] k ys d_ er ln)(R:k<ys.length)(Q:W.ownsRow (wb+1) 9 1 r a.length (a.map aK))(i:W.grownBy X r.ownBlock)(S:X.ownsRow (wb+1) 9 1 vp (a.length+1) (a.map aK++[aK j]))(B:vp.ownBlock=r.ownBlock\/∃q,vp.ownBlock=some q/\W.heap.size<=q):
 eY L0 (X.ψ L (k*7+6) vp) wb bb fs b (ξ L wk dx) vO [ξ L wk dx,vp] k (ys.set k {ys[k]with cs:=a++[j],vc:=vp}) d_ er ln/\(X.ψ L (k*7+6) vp).ownsRow (wb+1) 9 1 vp (a++[j]).length ((a++[j]).map aK)/\X.frozen? (η L (k*7+6))=false/\X.ownsRow (wb+1) 116 7 (ξ L wk dx) wk (ys.flatMap jd)/\(∀q t J,aF W q t J->q≠L->some q≠r.ownBlock->aF (X.ψ L (k*7+6) vp) q t J):=by
 subst D;have V:=h.lt;have:=Yt h.aT L rfl;have F:∀q,r.ownBlock=some q->q≠L:=λq d e=>cV.ap Q h.aT (by decide) q d (by rw[e];rfl);have Z:∀q,q≠L->(X.ψ L (k*7+6) vp).heap[q]?=X.heap[q]?:=λq d=>Ys _ _ _ _ d;have I:∀q,q<W.heap.size->q≠L->some q≠r.ownBlock->(X.ψ L (k*7+6) vp).heap[q]?=W.heap[q]?:=λq E c H=>(Z q c).trans (i.block q E H);have g:∀q,r.ownBlock=some q->wb<q:=λq d=>by have:=(Yt Q q d).1;omega
 have v:Below wb W X:=⟨i.os,i.tape,i.output,i.size,λq d=>i.block q (by have:=h.row.lt;omega) (λe=>by have:=g q e.symm;omega)⟩;have s:=v.setCell (p:=η L (k*7+6)) (show wb<=L by omega) vp;have G:=bI h.aT λq d=>i.block q (Yt h.aT q d).2 (λe=>F q e.symm (by cases d;rfl));have o:ej W (X.ψ L (k*7+6) vp) wb [ξ L ys.length dx,r] [ξ L ys.length dx,vp]:=by
  refine⟨s,λq E _ H=>I q E (λe=>H _ (Yq ..) (by rw[e];rfl)) (H r (by simp)),λu n q d=>?_⟩;simp only[YD,ZC,k8]at n;obtain rfl|rfl:=n
  ·exact .inr ⟨_,Yq ..,d⟩
  obtain e|⟨p,e,C⟩:=B
  ·exact .inr ⟨r,by simp,e▸d⟩
  rw[e]at d;cases d;exact .inl C
 have A:∀y∈ys.set k {ys[k]with cs:=a++[j],vc:=vp},∃z∈ys,z.vn=y.vn/\z.x=y.x:=λy O=>by
  obtain q|q:=HJ O
  ·exact⟨y,q,rfl,rfl⟩
  exact⟨ys[k],Ym R,by rw[q],by rw[q]⟩
 refine⟨⟨(I wb h.row.lt (by omega) (λe=>by have:=g wb e.symm;omega)).trans h.row,h.bW,h.bS.trans (s.mono V),V,?_,h.aY.cY h.oz o,h.oz.cY o,λy O=>?_,λm P D=>?_⟩,?_,wH G _,G,λq t J l E c=>(I q l.lt E c).trans l⟩
 ·have c:=sR G (k*7+6) vp;rw[Kh (f:=jd) (λ_=>rfl) ys k 6 {ys[k]with cs:=a++[j],vc:=vp} vp R rfl (by decide)]at c;rw[Y7];exact c
 ·have⟨z,M,w,K⟩:=A y O;rw[<-w,<-K];exact⟨(h.aH z M).1.cY (h.aH z M).2 o,(h.aH z M).2.cY o⟩
 ·have N:m<ys.length:=by simpa using P
  have e:(ys.set k {ys[k]with cs:=a++[j],vc:=vp})[m]=ys[m]:=acu (λe=>D e.symm) _;rw[e];exact⟨(h.aI m N D).1.cY (h.aI m N D).2 o,(h.aI m N D).2.cY o⟩
 rw[X4,Yy];refine bI (by simpa using S) λq d=>Z q (λe=>cV.ap S G (by decide) q d (by rw[e];rfl))
end
def DF(S:(Nat×Nat)⊕fv)(b c:Nat)(a:fv):Prop:=match S with
 | .inl q=>b=q.1/\c=q.2
 | .inr l=>b=0/\c=0/\a=l
def La(o:ay)(j m:Nat)(n:fy)(b:Bk)(g l:az)(c:j4)(k:Nat)(i:gb)(S:(Nat×Nat)⊕fv)(e:Ending)(W':ay):Prop:=(∃v,e=.returned v)/\∃d h f a,eY o W' j m n b g l [g] c.length (c.set k {c.getD k iW with cs:=d,vc:=h }) i f a /\DF S f a d
structure tI(L0:ay)(wb bb:Nat)(fs:fy)(b:Bk)(vN vO:az)(y:Wn)(ys:j4)(k:Nat)(d_:gb)(sb rb:Nat)(g:Sg)(rv:f')(aI:List (aj×Nat))(S:(Nat×Nat)⊕fv)(i:Nat)(aE:fv)(vC:az)(wr:ay):Prop where
 wo:eY L0 wr wb bb fs b vN vO [vN,vC] k (ys.set k {y with cs:=aE,vc:=vC}) d_ 0 0
 bG:wr.ownsRow (wb+1) 9 1 vC aE.length (aE.map aK)
 sg:aF wr sb 152 [.bool g.on,aK g.jH,aK g.first,aK g.all,aK g.stem]
 ru:aF wr rb 147 rv
 fU:aE.length<=i
 go:qJ (nR b.aX) (jQ g) (aI.drop i) aE S
def eY.KY{y:Wn}{c:j4}(h:eY L0 W wb bb fs b vN vO [vN,r] k (c.set k {y with cs:=a,vc:=r}) dn er ln)(d:W.ownsRow (wb+1) 9 1 r a.length (a.map aK)):eY L0 W wb bb fs b vN vO [vN] c.length (c.set k {y with cs:=a,vc:=r}) dn er ln:=by
 have j:=(h.zo (os':=[vN]) (λu f=> .inr (by rw[Yc.1 f];exact Yq ..))).ret λn=>by rw[H4];refine⟨eV.vU d,λq i=>?_⟩;have m:=Yt d q i;exact⟨m.2,by omega,λu f=>by rw[Yc.1 f];exact cV.ap d h.aT (by decide) q i⟩
 rw[Y7]at j;exact j
def tI.aD{wb:Nat}{y:Wn}{c:j4}{g:Sg}{f:List (aj×Nat)}(h:tI L0 wb bb fs b vN vO y c k dn i L g z f fd E a r W)(d:μ W w'):tI L0 wb bb fs b vN vO y c k dn i L g z f fd E a r w':=⟨h.wo.aD d,bI h.bG λq j=>d.block q (Yt h.bG q j).2,h.sg.aD d,h.ru.aD d,h.fU,h.go⟩
def T4(t:aj)(a:t.length<=2000)(w:ay):θ 73 #[σ t] w (σ (Mk.cut t)):=by have:=mC ⟨t.toArray⟩ w (by rw[ea];omega);exact this
def OI{c:j4}(h:eY L0 W wb bb fs b (ξ L c.length dx) vO [ξ L c.length dx] c.length c dn 0 0)(T:k<c.length)(hc:c[k].cs=[])(hv:c[k].vc= ς)(hS:nM b)(hg:zm (tZ (fa b c[k].x)))(bt:∀i,c[k].x.gW =some i->i<b.aG.length)(a6:c[k].x.aH.length<=4294967296)(hO:qJ (nR b.aX) (fa b c[k].x).sg (fa b c[k].x).aI [] fd):
 Calls prog 54 #[π wb,.pointer (some (η L (k*7)))] W λe W'=>La L0 wb bb fs b (ξ L c.length dx) vO c k dn fd e W':=by
 unfold π ξ;have bM:c.getD k iW=c[k]:=by rw[Yf,X9 T];rfl
 have aS:∀ai u,(jd c[k])[ai]?=some u->W.χ L (k*7+ai)=some u:=λai u V=>by have hj:ai<7:=(Yl.1 V).1;exact gY h.aT _ u (by rw[qA (f:=jd) (λ_=>rfl) c k ai T hj];exact V)
 have U:=aS 2 _ rfl;unfold ir at U;have a5:=aC bM;have H:=aC h;have bw:c.set k {c[k] with cs:=[],vc:= ς}=c:=by
  have e:({c[k] with cs:=[],vc:= ς}:Wn)=c[k]:=by rw[<-hc,<-hv]
  rw[e,adB]
 have a0:=aC bw;have ao:=aC aS;have HO:=aC hO;have bP:=h.aH c[k] (Ym T);have aN:=aC bP;generalize hy:c[k]=y at*;cases m:y.x.gW with
 |none=>
  have cm:Hid (fd=.inr []):=aC (by have:=HO.u;unfold fa at this;rw[m]at this;exact this);rw[m]at U;unfold iP at U;go_enter func54,ntmps54;go_wp2_with fail
  refine Yw (Zr rfl _ _ _) rfl ?_;exact⟨⟨_,rfl⟩,[],ς,0,0,by rw[a5.u,a0.u];exact H.u,by rw[cm.u];exact⟨rfl,rfl,rfl⟩⟩
 |some o=>
  have a7:=bt o m;rw[m]at U;unfold iP at U;have n0:=ao.u 0 _ rfl;have n1:=ao.u 1 _ rfl;have n3:=ao.u 3 _ rfl;rw[ZH]at n0;unfold aK at n0 n3;obtain⟨av,kv,au⟩:=aN.u.1.jm;rw[au]at n1;have CJ:Hid (∀w,Below W.heap.size W w->θ 71 #[.slice av y.x.aH.length kv] w (σ ([32].intercalate y.x.aH))):=aC λw m=>by rw[<-au];exact Q6 (aN.u.1.aD m) (by have:=hg.all;unfold tZ fa at this;have M:([32].intercalate y.x.aH).length<=1310000:=this;omega) a6
  have b7:=Yt H.u.aT L rfl;have b3:=aC au;have HG:=aC hg;generalize cd:[32].intercalate y.x.aH=all at*;go_enter func54,ntmps54;go_upto_region 1 with fail
  go_cut [4] from 5 (λpv A=>pv= π W.heap.size/\Hid (aF A W.heap.size 152 [.bool true,σ y.x.name,ε,σ all,σ y.x.stem])/\Hid (Below W.heap.size W A))
  case first=>
   go_region_held3 (λg=>g.χ L (k*7)=some (σ y.x.name)/\g.χ L (k*7+1)=some (.slice av y.x.aH.length kv)/\g.χ L (k*7+3)=some (σ y.x.stem)) (first|with_reducible exact⟨n0,n1,n3⟩|go_keep) (first|(go_at_call 71;refine κ (CJ.u _ (X5 _ W).drew) λw5 Q=>?_;subst Q)|(go_at_call 71;refine κ (CJ.u _ ((X5 _ W).drew.alloc ax _)) λw5 Q=>?_;subst Q)|(go_at_call 71;refine κ (CJ.u _ (ak W _).drew) λw5 Q=>?_;subst Q))
   all_goals go_wp2_with fail
   all_goals go_meet
   all_goals exact⟨rfl,aC (aF.bq W 152 [.bool true,σ y.x.name,ε,σ all,σ y.x.stem]),aC ((ak W _).drew)⟩
  obtain⟨rfl,ab,al⟩:=hcut;generalize cv:W.heap.size=l at*;have aL:=aC cv;have f2:=ab.u.frozen 2;have s2:=ab.u.cell 2 (by simp);simp only[X6,X7]at s2;have b6 :=(al.u.cell (p:=η L (k*7+1)) (by show L<_;omega)).trans n1;go_upto_if 34 with fail
  go_cut [] from 5 (λA=>Hid (aF A l 152 [.bool true,σ y.x.name,σ (y.x.aH.headD []),σ all,σ y.x.stem])/\Hid (Below l W A))
  case first=>
   by_cases h0:0<y.x.aH.length
   ·obtain⟨a9,k9,v,J,ag,af,ae⟩:=aN.u.1.aD (aL.u▸al.u);rw[b3.u]at ag;cases ag;obtain⟨rfl,-⟩:=af h0;have Y:=ae 0 h0;rw[ZH]at Y;unfold aK at Y;have aw:Hid (y.x.aH.headD []=y.x.aH[0]):=aC (by rw[List.headD_eq_head?_getD,List.head?_eq_getElem?,X9 h0];rfl);generalize y.x.aH[0]=z at*;go_wp2_with fail
    go_meet
    exact⟨aC (by rw[aw.u];exact ab.u.set 2 _),aC (al.u.setCell (p:=η l 2) ax _)⟩
   have aw:Hid (y.x.aH.headD []=[]):=aC (by rw[Y4.1 (by omega:y.x.aH.length=0)];rfl);go_wp2_with fail
   go_meet
   exact⟨aC (by rw[aw.u];exact ab.u),al⟩
  obtain⟨be,bv⟩:=hcut;have aW:Below W.heap.size W wc:=aL.u▸bv.u;have M:=H.u.aD aW;obtain⟨a,bg,R,O,q2,bd,bX⟩:=H.u.bW.aG;obtain⟨rfl,cb⟩:=bd (by omega);obtain⟨vt,vn,vs,vl,hR⟩:=bX o a7;have aZ:=hS.aG _ (Ym a7)
  have iX:(fa b y.x).aI=b.aG[o].cs:=by unfold fa;rw[m];show(b.aG.getD o db).cs=_;rw[Yf,X9 a7];rfl
  have aM:=HO.u;rw[iX,<-Ue]at aM;generalize b.aG[o]=d at*;obtain⟨C,K,Z,B,a3,E,a4,F,rfl,rfl,rfl,rfl⟩:=hR.jm;obtain⟨cM,q1,b5⟩:=H.u.bW.aX;have a8:=H.u.bW.lt;obtain⟨an,cn,bn,on,bR,-,-,-⟩:=b5;have HQ:Hid (∀X,Below L0.heap.size L0 X->X.χ bb 2=some (.slice (some (η R O)) b.aG.length bg)/\X.χ bb 1=some (.slice an b.aX.length cn)/\tK X R (O+o*6) d (.slice C d.tg.length K) (.slice Z d.nd.length B) (.slice a3 d.cs.length E) (.slice a4 d.cs.length F)/\qV X (.slice an b.aX.length cn) b.aX):=aC λX hX=>by obtain⟨cC,bN,cp⟩:=H.u.bW.aX;rw[q1]at bN;cases bN;rw[<-bR];exact⟨(hX.cell (p:=η bb 2) a8).trans q2,(hX.cell (p:=η bb 1) a8).trans q1,hR.aD cb hX,cp.aD hX⟩
  have c0:=M.row.cell 0 (by simp);simp only[X6]at c0;obtain⟨bZ,-,cq,-⟩:=HQ.u _ M.bS;obtain⟨d0,d1,d2,d3,d4,d5,-,-,-,-⟩:=cq;have bp :=(aW.cell (p:=η L (k*7+2)) (by show L<W.heap.size;rw[aL.u];exact b7.2)).trans U;have bk:=aC M;have bs:Hid (tZ (fa b y.x)=⟨true,y.x.name,y.x.aH.headD [],all,y.x.stem⟩):=aC (by unfold tZ fa;rw[<-cd]);have ba:=aM;rw[bs.u]at ba;have bT:=aC HG.u;rw[bs.u]at bT;have bF:=aC ba;have cL:=aZ.cs;have cf:=aC aZ.XQ;have ch:=aC hS.aX;have cF:(o:Int)<b.aG.length:=by omega
  have cJ:=M.row.lt;generalize y.x.aH.headD []=s at*;obtain⟨N,rfl⟩:∃N,N=wc:=⟨wc,rfl⟩;go_upto_region 4 with fail
  go_cut [5] from 6 (λpv A=>pv= π N.heap.size/\Hid (aF A N.heap.size 147 [.slice C d.tg.length K,.slice Z d.nd.length B,.slice a3 d.cs.length E,.slice a4 d.cs.length F,.bool d.cD,.bool d.ph])/\Hid (Below N.heap.size N A))
  case first=>
   go_region_held3 (λg=>g.χ wb 0=some (π bb)/\g.χ bb 2=some (.slice (some (η R O)) b.aG.length bg)/\g.χ L (k*7+2)=some (ι (o:Int))/\g.χ R (O+o*6)=some (.slice C d.tg.length K)/\g.χ R (O+o*6+1)=some (.slice Z d.nd.length B)/\g.χ R (O+o*6+2)=some (.slice a3 d.cs.length E)/\g.χ R (O+o*6+3)=some (.slice a4 d.cs.length F)/\g.χ R (O+o*6+4)=some (.bool d.cD)/\g.χ R (O+o*6+5)=some (.bool d.ph)) (first|with_reducible exact⟨c0,bZ,bp,d0,d1,d2,d3,d4,d5⟩|go_keep) (first|fail)
   all_goals go_wp2_with fail
   all_goals go_meet
   all_goals exact⟨rfl,aC (aF.bq N 147 [.slice C d.tg.length K,.slice Z d.nd.length B,.slice a3 d.cs.length E,.slice a4 d.cs.length F,.bool d.cD,.bool d.ph]),aC ((ak N _).drew)⟩
  obtain⟨rfl,bj,a_⟩:=hcut;have b1:Hid (eY L0 wc wb bb fs b (ξ L c.length dx) vO [ξ L c.length dx,ς] k (c.set k {y with cs:=[],vc:= ς}) dn 0 0):=aC (by
   rw[a0.u];exact((bk.u.aD a_.u).out k).zo λu V=>by
    simp only[YD,ZC,k8]at V;rcases V with rfl|rfl
    ·exact .inr (Yc.2 rfl)
    exact .inl rfl)
  have bl:=aC (be.u.aD a_.u);generalize N.heap.size=t at*;have b_:Hid (tI L0 wb bb fs b (ξ L c.length dx) vO y c k dn l t ⟨true,y.x.name,s,all,y.x.stem⟩ [.slice C d.tg.length K,.slice Z d.nd.length B,.slice a3 d.cs.length E,.slice a4 d.cs.length F,.bool d.cD,.bool d.ph] d.cs fd 0 [] (ς) wc):=aC ⟨b1.u,YG _ _ _ _,bl.u,bj.u,X0 _,bF.u⟩;go_wp2_with fail
  go_loopw [6] (λiv wr=>∃(i:Nat) (D:fv) (r:az),iv= ι i/\i<=d.cs.length/\Hid (tI L0 wb bb fs b (ξ L c.length dx) vO y c k dn l t ⟨true,y.x.name,s,all,y.x.stem⟩ [.slice C d.tg.length K,.slice Z d.nd.length B,.slice a3 d.cs.length E,.slice a4 d.cs.length F,.bool d.cD,.bool d.ph] d.cs fd i D r wr)) (λiv _=>d.cs.length-aV iv)
  case atStart=>exact⟨0,[],_,rfl,Yh _,b_⟩
  obtain⟨i,D,r,rfl,hi,HR⟩:=hrel;have x2:=HR.u.ru.cell 2 (by simp);simp only[X6,X7]at x2;by_cases br:i<d.cs.length
  ·have ti:(i:Int)<d.cs.length:=by omega
   have x3:=HR.u.ru.cell 3 (by simp);have z0:=HR.u.sg.cell 0 (by simp);have z1:=HR.u.sg.cell 1 (by simp);have z2:=HR.u.sg.cell 2 (by simp);have z3:=HR.u.sg.cell 3 (by simp);have z4:=HR.u.sg.cell 4 (by simp);have w0:=HR.u.wo.row.cell 0 (by simp);simp only[X6,X7]at x3 z0 z1 z2 z3 z4 w0;unfold aK at z1 z2 z3 z4;obtain⟨-,p1,aP,b2⟩:=HQ.u _ HR.u.wo.bS;obtain⟨a9,k9,v,J,ag,af,ae⟩:=aP.st;have bH:(d.cs.map (·.1)).length=d.cs.length:=Yk ..;rw[bH]at ag;cases ag;obtain⟨rfl,ck⟩:=af (by omega);have Y:wr.χ v (J+i)=some (σ (d.cs[i].1)):=by have:=ae i (by omega);rw[YT]at this;exact this
   obtain⟨cH,cP,S,o8,b0,bC,bB⟩:=aP.ln;have aA:(d.cs.map (·.2)).length=d.cs.length:=Yk ..;rw[aA]at b0;cases b0;obtain⟨rfl,bJ⟩:=bC (by omega);have cO:S<L0.heap.size:=by obtain⟨a',c',b',o',e',g2,-⟩:=(HQ.u L0 (X5 _ _)).2.2.1.ln;rw[aA]at e';cases e';obtain⟨e1,e2⟩:=g2 (by omega);cases e1;exact e2
   have e8:wr.χ S (o8+i)=some (ι (d.cs[i].2:Int)):=by have:=bB i (by omega);rw[YT]at this;exact this
   have bY:=HR.u.go;rw[Yu br]at bY;obtain⟨er,bc,I⟩:=bY;have cz:=cf.u _ (Ym br);have CE:Hid (∀w,Below wr.heap.size wr w->γ 72 #[.slice an b.aX.length cn,σ (d.cs[i].1),.agg #[.bool true,σ y.x.name,σ s,σ all,σ y.x.stem]] w (lB er)):=aC λw m=>Fy (b2.aD m) ch.u bT.u cz.1 bc;have ce:er.bK.length<=2000:=by obtain⟨f,hf⟩:=bc;exact rz f _ _ _ _ _ hf
   have bx:=aC I;have ci:=HR.u.wo.row.lt;have cg:bb<wr.heap.size:=Yo a8 HR.u.wo.bS.size;have cV:=HR.u.fU;have ad:=HR.u.sg.lt;generalize d.cs[i]=P at*;have aY:=HR.u.ru.lt;have bE:Hid (∀n,Below wr.heap.size wr n->n.χ wb 0=some (π bb)/\n.χ bb 1=some (.slice an b.aX.length cn)/\n.χ t 2=some (.slice (some (η v J)) d.cs.length E)/\n.χ v (J+i)=some (σ P.1)/\n.χ l 0=some (.bool true)/\n.χ l 1=some (σ y.x.name)/\n.χ l 2=some (σ s)/\n.χ l 3=some (σ all)/\n.χ l 4=some (σ y.x.stem)):=aC λn m=>⟨(m.cell (p:=η wb _) ci).trans w0,(m.cell (p:=η bb _) cg).trans p1,(m.cell (p:=η t _) aY).trans x2,(m.cell (p:=η v _) ck).trans Y,(m.cell (p:=η l _) ad).trans z0,(m.cell (p:=η l _) ad).trans z1,(m.cell (p:=η l _) ad).trans z2,(m.cell (p:=η l _) ad).trans z3,(m.cell (p:=η l _) ad).trans z4⟩;by_cases ez:er.er=0
   ·rw[xi ez]at CE;have I:=bx.u;rw[Yb (λe=>e ez)]at I;have CT:=aC (T4 er.bK ce);go_upto_region 8 with fail
    go_region_held3 (λg=>g.χ wb 0=some (π bb)/\g.χ bb 1=some (.slice an b.aX.length cn)/\g.χ t 2=some (.slice (some (η v J)) d.cs.length E)/\g.χ v (J+i)=some (σ P.1)/\g.χ l 0=some (.bool true)/\g.χ l 1=some (σ y.x.name)/\g.χ l 2=some (σ s)/\g.χ l 3=some (σ all)/\g.χ l 4=some (σ y.x.stem)) (first|with_reducible exact⟨w0,p1,x2,Y,z0,z1,z2,z3,z4⟩|with_reducible exact ah|go_keep) (first|(go_at_call 72;refine κ (CE.u _ (X5 _ wr).drew) λn am=>?_;have G :=(X5 _ wr).drew.trans am;have ah:=bE.u n G;have j:=aC (HR.u.aD G);have cr :=(G.cell (p:=η t 3) aY).trans x3;have cu :=(G.cell (p:=η S (o8+i)) bJ).trans e8))
    by_cases ec:Mk.cut er.bK=[]
    ·rw[ec]at CT;rw[Yd ec]at I;have HN:Hid (tI L0 wb bb fs b (ξ L c.length dx) vO y c k dn l t ⟨true,y.x.name,s,all,y.x.stem⟩ [.slice C d.tg.length K,.slice Z d.nd.length B,.slice (some (η v J)) d.cs.length E,.slice (some (η S o8)) d.cs.length F,.bool d.cD,.bool d.ph] d.cs fd (i+1) D r n):=aC ⟨j.u.wo,j.u.bG,j.u.sg,j.u.ru,by omega,I⟩;go_wp2_with (go_at_call 73;refine κ (CT.u _) λ_ Q=>?_;subst Q)
     first
      |exact⟨⟨i+1,D,r,by go_num,by omega,HN⟩,by simp only[aV];omega⟩
      |(go_roundw;exact⟨i+1,D,r,by go_num,by omega,HN⟩;simp only[aV];omega)
    rw[Yb ec]at I;have cI:(Mk.cut er.bK==[])=false:=by rw[Yi];exact ec
    have aa:=j.u.wo.aT;rw[Y7]at aa;obtain⟨ac,kc,aq⟩:=dR j.u.bG;have l6:=gY aa (k*7+6) r (by rw[qA (f:=jd) (λ_=>rfl) _ k 6 (by rw[Y7];exact T) (by decide),H4];rfl);rw[aq]at l6;have bo:=aC j.u.bG;rw[aq]at bo;obtain⟨i0,bD,bO,bU,bA⟩:=Y1 Tryz.kZ;have bQ:l≠L:=λe=>sO j.u.sg aa (by decide) (by rw[e];rfl);have bm:some l≠r.ownBlock:=sO j.u.sg j.u.bG (by decide);have bV:t≠L:=λe=>sO j.u.ru aa (by decide) (by rw[e];rfl);have bz:some t≠r.ownBlock:=sO j.u.ru j.u.bG (by decide);have cw:=aC bD;have cx:=aC bO;have cy:=aC bU;have co:=aC bA;have ap:Hid (some l≠r.ownBlock/\some t≠r.ownBlock/\l≠L/\t≠L):=aC ⟨bm,bz,bQ,bV⟩;have bL:=aC aq;have cj:=aC I;have cR:=j.u.wo.row.lt;generalize Mk.cut er.bK=ct at*;go_wp2_with (first|(go_at_call 73;refine κ (CT.u _) λ_ Q=>?_;subst Q)|(at_builtin;refine YS _ rfl (.tmp 101) (.tmp 103) 30 rfl (wb+1) 9 i0 _ 1 16 YU cw.u cx.u cy.u co.u rfl (by decide) _ D.length _ rfl (Yz bo.u _) (η _ 0) 1 1 [aK er.bK] rfl rfl (gX _ _ [aK er.bK]) (by intro u V;simp at V;subst V;rfl) (by unfold maxLen;omega) (by omega) (by rw[X_];omega) ?_;intro v1 w3 aU aR cl aB;rw[<-bL.u]at aR aB;obtain⟨g1,ca,rfl,-,-⟩:=dv aU (by omega);obtain⟨q1,q2,q3,q4,q5⟩:=j.u.wo.dg (by rw[Y7]) (by rw[Y7];exact T) j.u.bG ((YZ n _ _).trans aR) aU (by rcases aB with e|e;exact .inl e;exact .inr ⟨_,e,by simp⟩);rw[H4,List.set_set]at q1;have g6:=gY q4 (k*7+6) r (by rw[qA (f:=jd) (λ_=>rfl) _ k 6 (by rw[Y7];exact T) (by decide),H4];rfl);rw[bL.u]at g6;have HN:Hid (tI L0 wb bb fs b (ξ L c.length dx) vO y c k dn l t ⟨true,y.x.name,s,all,y.x.stem⟩ [.slice C d.tg.length K,.slice Z d.nd.length B,.slice (some (η v J)) d.cs.length E,.slice (some (η S o8)) d.cs.length F,.bool d.cD,.bool d.ph] d.cs fd (i+1) (D++[er.bK]) (ξ g1 (D.length+1) ca) _):=aC ⟨q1,q2,q5 _ _ _ j.u.sg ap.u.2.2.1 ap.u.1,q5 _ _ _ j.u.ru ap.u.2.2.2 ap.u.2.1,by rw[X4,Yx];omega,cj.u⟩))
    first
     |exact⟨⟨i+1,_,_,by go_num,by omega,HN⟩,by simp only[aV];omega⟩
     |(go_roundw;exact⟨i+1,_,_,by go_num,by omega,HN⟩;simp only[aV];omega)
   have te:((er.er:Int) !=0)=true:=by rw[ZI];omega
   rw[wR ez]at CE;have aO:Hid (fd=.inl (er.er,P.2)):=aC (by have:=bx.u;rw[Yd ez]at this;exact this);go_upto_region 8 with fail
   go_region_held3 (λg=>g.χ wb 0=some (π bb)/\g.χ bb 1=some (.slice an b.aX.length cn)/\g.χ t 2=some (.slice (some (η v J)) d.cs.length E)/\g.χ v (J+i)=some (σ P.1)/\g.χ l 0=some (.bool true)/\g.χ l 1=some (σ y.x.name)/\g.χ l 2=some (σ s)/\g.χ l 3=some (σ all)/\g.χ l 4=some (σ y.x.stem)) (first|with_reducible exact⟨w0,p1,x2,Y,z0,z1,z2,z3,z4⟩|with_reducible exact ah|go_keep) (first|(go_at_call 72;refine κ (CE.u _ (X5 _ wr).drew) λn am=>?_;have G :=(X5 _ wr).drew.trans am;have ah:=bE.u n G;have j:=aC (HR.u.aD G);have cr :=(G.cell (p:=η t 3) aY).trans x3;have cu :=(G.cell (p:=η S (o8+i)) bJ).trans e8))
   have y1:=j.u.wo.bh 3 er.er 0 er.er (.inl ⟨rfl,rfl,rfl⟩);have y2:=y1.bh 4 er.er P.2 P.2 (.inr ⟨rfl,rfl,rfl⟩);have f3:=j.u.wo.row.frozen 3;have f4:=y1.row.frozen 4;have g3:=j.u.wo.row.cell 3 (by simp);have g4:=j.u.wo.row.cell 4 (by simp);simp only[X6,X7]at g3 g4
   have cE:S≠wb:=λe=>by have:=j.u.wo.lt;omega
   have ar:=aC (y2.KY (bI j.u.bG λq hq=>(Ys _ (η wb 4) _ q (by show q≠wb;have:=(Yt j.u.bG q hq).1;omega)).trans (Ys _ (η wb 3) _ q (by show q≠wb;have:=(Yt j.u.bG q hq).1;omega))));unfold dC at ar f4;go_wp2_with fail
   refine Yw (Zr rfl _ _ _) rfl ?_;exact⟨⟨_,rfl⟩,D,r,er.er,P.2,by rw[a5.u];exact ar.u,by rw[aO.u];exact⟨rfl,rfl⟩⟩
  have ti:¬(i:Int)<d.cs.length:=by omega
  have aO:Hid (fd=.inr D):=aC (by have:=HR.u.go;rw[Zz (by omega)]at this;exact this);have ar:=aC (HR.u.wo.KY HR.u.bG);go_wp2_with fail
  refine Yw (Zr rfl _ _ _) rfl ?_;exact⟨⟨_,rfl⟩,D,r,0,0,by rw[a5.u];exact ar.u,by rw[aO.u];exact⟨rfl,rfl,rfl⟩⟩
theorem AD(h:∀t n q,dY t n=some q->q.2.aY.length+t.aT.length=t.aY.length+q.2.aT.length):∀(l:fv) (t:Wk) (q:Nat×Wk),gx dY l t=some q->q.2.aY.length+t.aT.length=t.aY.length+q.2.aT.length
 |[],t,q,e=>by cases e;rfl
 |n::l,t,q,e=>by
  unfold gx at e;cases d:dG t.aT n with
  |none=>
   rw[d]at e;simp only at e;cases a:dY t n with
   |none=>rw[a]at e;cases e
   |some f=>
    rw[a]at e;simp only at e;have i:=h t n f a;split at e
    ·cases e;exact i
    have:=AD h l _ q e;omega
  |some f=>
   rw[d]at e;simp only at e;split at e
   ·exact AD h l _ q e
   cases e;rfl
theorem AY(b:Bk)(c:fy):∀(f:Nat) (t:Wk) (n:aj) (q:Nat×Wk),eH b c f t n=some q->q.2.aY.length+t.aT.length=t.aY.length+q.2.aT.length
 |0,_,_,_,e=>by cases e
 |f+1,t,n,q,e=>by
  rw[eH]at e;split at e
  ·cases e;rfl
  cases a:gx (eH b c f) (de b c n).1.aH (fq t (de b c n).1) with
  |none=>rw[a]at e;cases e
  |some h=>rw[a]at e;cases e;have d:=AD (AY b c f) _ _ _ a;unfold fq at d;unfold i_;simp only[X4,Y7,Yx]at d⊢;omega
structure xH(L0 W3:ay)(wb bb nb:Nat)(fs:fy)(b:Bk)(x:Nr)(v vN1 vO1:az)(f:Nat)(p:Nat×Wk)(i er:Nat)(vN vO:az)(xs:List ((Nr×Bool)×az))(t:Wk)(wr:ay):Prop where
 m:fN L0 wr wb bb fs b vN vO xs t er
 fr:jM W3 wr wb vN1 vO1 vN vO
 df:aF wr nb 116 (dP x v)
 nd:fO wr v x.aH/\sA wr v
 ne:some nb≠vN.ownBlock/\some nb≠vO.ownBlock/\nb≠wb
 go:er=0->gx (eH b fs f) (x.aH.drop i) t=some p
 st:er≠0->p=(er,t)
 d_:t.aY.length<=t.aT.length
def KX(m:fN L0 W wb bb fs b vN vO xs V er)(d:aF W i 116 (dP el vp))(f:fO W vp el.aH/\sA W vp)(g:some i≠vN.ownBlock/\some i≠vO.ownBlock/\i≠wb)(a:jM W n wb vN vO dI eq):
 aF n i 116 (dP el vp)/\(fO n vp el.aH/\sA n vp)/\(some i≠dI.ownBlock/\some i≠eq.ownBlock/\i≠wb):=by
 have h:=d.lt;have o:=a.bS.size;refine⟨(a.jX i h g.2.2 g.1 g.2.1).trans d,f.1.kept f.2 (λq _ _ y=>?_) o,λe=>?_,λe=>?_,g.2.2⟩
 ·obtain⟨p,u,r,j⟩:=m.a_ y;exact a.jX q p u r j
 ·rcases a.zL with c|⟨q,c,k⟩
  ·exact g.1 (e.trans c)
  rw[c]at e;cases e;omega
 rcases a.zJ with c|⟨q,c,k⟩
 ·exact g.2.1 (e.trans c)
 rw[c]at e;cases e;omega
def xH.cY(h:xH L0 n wb bb i fs b el vp r ad L es E er vN vO xs V W)(D:fN L0 O wb bb fs b dI eq eS Z N)(j:jM W O wb vN vO dI eq)(y:N =0->gx (eH b fs L) (el.aH.drop wk) Z =some es)(z:N ≠0->es=(N,Z))(p:Z.aY.length<=Z.aT.length):
 xH L0 n wb bb i fs b el vp r ad L es wk N dI eq eS Z O:=by have⟨u,G,H⟩:=KX h.m h.df h.nd h.ne j;exact⟨D,h.fr.trans j,u,G,H,y,z,p⟩
structure Lk(L0:ay)(b:Bk)(fs:fy)(P M:Nat):Prop where
 size:nM b
 ru:∀r∈b.aG,r.tg≠[]/\(r.cD=true->(r.tg.headD []).contains 37=true)
 ff:fs.length<=16777216
 nm:∀name x,x∈(de b fs name).1.aH->x.length<=P
 nl:∀name,(de b fs name).1.aH.length<=130000
 p:P<=1073741000
 m:M<=1000000000
def Dq(j:ay)(c i:Nat)(d:fy)(b:Bk)(P M f:Nat):Prop:=∀(W:ay) (h g:az) (k:List ((Nr×Bool)×az)) (t:Wk) (a:aj) (q:Nat×Wk),fN j W c i d b h g k t 0->a.length<=P->eH b d f t a=some q->q.2.aT.length<=M->t.aY.length<=t.aT.length->
 Calls prog 53 #[.pointer (some ⟨c,0,none⟩),.string ⟨a.toArray⟩] W λe l=>WZ j c i d b h g q W e l
def PM(I:Lk L0 b fs L wk)(ih:Dq L0 wb bb fs b L wk bf):Dq L0 wb bb fs b L wk (bf+1):=by
 intro W vN vO c t name q f bL D bp bT;have c0:=f.row.cell 0 (by simp);simp only[X6]at c0;have a4:=f.row.lt;have P:=S8 (f.bW.aD f.bS) I.size I.ru I.ff name (by have:=I.p;omega);have bG:=I.nl name;have a6:=aC (I.nm name);have bY:=I.m;have bM:=rh b fs (bf+1) t name q D;rw[eH]at D;obtain⟨i0,hi,aX,ag,a'⟩:=Y1 Tryz.Ra;obtain⟨i1,hj,bg,aE,a0⟩:=Y1 Tryz.JY;have bD:=aC hi;have bE:=aC aX;have bF:=aC ag;have bv:=aC a';have aP:=aC hj;have aR:=aC bg;have a7:=aC aE;have bl:=aC a0;clear I hi aX ag a' hj bg aE a0;generalize dA:de b fs name=nd at*;obtain⟨x,ok⟩:=nd;simp only at D bG a6;go_enter func53,ntmps53;unfold KL at P;rw[dA]at P;cases ok with
 |false=>
  rw[Yd rfl]at D;cases D;go_upto_region 1 with(first|(go_at_call 70;refine P.mono ?_;rintro e A⟨v,rfl,K,F⟩;obtain⟨o,n,rfl⟩:=dR K;simp only[dP,ir,aK]))
  have O:=F.alloc F.size (.cells #[σ x.name,.slice o x.aH.length n,ι (iP x.gW),σ x.stem,.bool x.ph,.bool false,ς] 116);have R:=f.aD O;have HF:=jM.bq (vN:=vN) (vO:=vO) O (lg a4);obtain⟨r1,r2⟩:=R.cH 8;have f3:=R.row.frozen 3;have e3:=R.row.cell 3 (by simp);simp only[X6,X7]at e3;clear R O;go_wp2_with fail
  refine Yw (Zr rfl _ _ _) rfl ?_;exact⟨⟨_,rfl⟩,vN,vO,c,r1,HF.trans r2⟩
 |true=>
  rw[Yb (by decide)]at D;cases T:gx (eH b fs bf) x.aH (fq t x) with
  |none=>rw[T]at D;cases D
  |some z=>
   rw[T]at D;cases D;have HW:=aC T;have bX:t.aT.length<z.2.aT.length:=Yo (by unfold fq;simp) (qf (rh b fs bf) _ _ _ T).1;have bt:z.2.aT.length<=wk:=by
    have Y:(i_ z.2 t.aT.length).aT.length=z.2.aT.length:=by unfold i_;simp
    have R:(i_ z.2 t.aT.length).aT.length<=wk:=bp;omega
   have aS:c.length=t.aT.length:=by rw[<-f.nx,Yk]
   have ai:=aC aS;have bQ:c.length<wk:=by omega
   have bk:Hid (∀k,W.heap.size<=k->some k≠vN.ownBlock/\some k≠vO.ownBlock/\k≠wb):=aC (λk C=>⟨λe=>by have:=(Yt f.aT k e.symm).2;omega,λe=>by have:=(Yt f.aY k e.symm).2;omega,by omega⟩);clear aS;clear T;go_upto_region 1 with(first|(go_at_call 70;refine P.mono ?_;rintro e A⟨v,rfl,K,F⟩;obtain⟨o,n,rfl⟩:=dR K;simp only[dP,ir,aK]))
   have O:=F.alloc F.size (.cells #[σ x.name,.slice o x.aH.length n,ι (iP x.gW),σ x.stem,.bool x.ph,.bool false,ς] 116);have be:=aF.bq A 116 (dP x (.slice o x.aH.length n));have aw:=K.sl.kept K.XP (λq _ _ Y=>((X5 A.heap.size A).alloc ax (.cells #[σ x.name,.slice o x.aH.length n,ι (iP x.gW),σ x.stem,.bool x.ph,.bool false,ς] 116)).block q (X8.1 Y).1) (by rw[X_];omega);have V:=f.aD O;have HF:=jM.bq (vN:=vN) (vO:=vO) O (lg a4);have bx:=F.size;generalize bc:A.alloc (.cells #[σ x.name,.slice o x.aH.length n,ι (iP x.gW),σ x.stem,.bool x.ph,.bool false,ς] 116)=wA at*;have G:Hid (aF wA A.heap.size 116 (dP x (.slice o x.aH.length n))):=aC (by rw[<-bc];exact be);generalize A.heap.size=nb at*;clear be O bc c0 P;obtain⟨an,cn,rfl⟩:=dR V.aT;have H:=V.row.cell 1 (by simp);have y0:=G.u.cell 0 (by simp[dP]);have y1:=G.u.cell 1 (by simp[dP]);have y2:=G.u.cell 2 (by simp[dP]);have y3:=G.u.cell 3 (by simp[dP]);have y4:=G.u.cell 4 (by simp[dP]);have y5:=G.u.cell 5 (by simp[dP]);have y6:=G.u.cell 6 (by simp[dP]);simp only[dP,ir,aK,X6,X7]at H y0 y1 y2 y3 y4 y5 y6;have aL:=V.aT;have b1:=V.row.lt;go_upto_region 4 with fail
   go_cut [] from 9 (λwc=>∃g,Hid (fN L0 wc wb bb fs b g vO (c++[((x,false),.slice o x.aH.length n)]) (fq t x) 0)/\Hid (jM wA wc wb (.slice an c.length cn) vO g vO))
   case first=>
    go_region_law (refine sH rfl (.tmp 32) (.tmp 34) 40 rfl (wb+1) 116 i0 _ 7 96 underlying40 bD.u bE.u bF.u bv.u rfl (by decide) _ c.length _ (by simp[Act.eval]) (aL.alloc _) (η _ 0) 1 1 (ky ((x,false),.slice o x.aH.length n)) (by simp[Act.eval]) rfl (gX _ _ (ky ((x,false),.slice o x.aH.length n))) (by intro u N;simp[ky]at N;rcases N with rfl|rfl|rfl|rfl|rfl|rfl|rfl<;>rfl) (by unfold maxLen;omega) (by omega) (by simp;omega) ?_;intro g w2 ar a5 aO;obtain⟨g1,bN,rfl,bO,b0⟩:=dv ar (by omega);obtain⟨r1,r2,r3⟩:=V.push aw (pD a5) ar (by rcases aO with e|e;exact .inl e;exact .inr ⟨_,e,by simp⟩);have e1:=r3.cell 1 (by simp);have f1:=r3.frozen 1;simp only[X6,X7]at e1;clear ar a5 aO r3)
    all_goals go_wp2_with fail
    all_goals go_meet
    all_goals exact⟨_,r1,r2⟩
   obtain⟨g,bn,al⟩:=hcut;clear H y0 y1 y2 y3 y4 y5 y6 aL;have bs:Hid (xH L0 wc wb bb nb fs b x (.slice o x.aH.length n) g vO bf z 0 0 g vO (c++[((x,false),.slice o x.aH.length n)]) (fq t x) wc):=aC (by obtain⟨k1,k2,k3⟩:=KX V G.u aw (bk.u nb bx) al.u;exact⟨bn.u,jM.refl _ _ _ _,k1,k2,k3,λ_=>HW.u,λe=>absurd rfl e,by unfold fq;simp only[X4,Yx];omega⟩);have aM:=HF.trans al.u;clear aw G V HF al bn HW bk;go_wp2_with fail
   go_loopw [7] (λiv wr=>∃(h l:Nat) (s w:az) (i:List ((Nr×Bool)×az)) (j:Wk),iv= ι h/\h<=x.aH.length/\Hid (xH L0 wc wb bb nb fs b x (.slice o x.aH.length n) g vO bf z h l s w i j wr)) (λiv _=>x.aH.length-aV iv)
   case atStart=>exact⟨0,0,g,vO,_,_,rfl,Yh _,bs⟩
   obtain⟨h,l,s,w,i,j,rfl,hi,a⟩:=hrel;have y1:=a.u.df.cell 1 (by simp[dP]);have c3:=a.u.m.row.cell 3 (by simp);simp only[dP,X6,X7]at y1 c3;by_cases hz:l=0/\h<x.aH.length
   ·obtain⟨ag,C⟩:=hz;subst ag;have d:=a.u.go rfl;rw[Yu C,gx]at d;have bC:=a6.u _ (Ym C);obtain⟨a9,k9,b9,o9,bo,aI,bj⟩:=a.u.nd.1;cases bo;obtain⟨rfl,-⟩:=aI (by omega);have d0:=bj h C;have b2:=(qf (rh b fs bf) _ _ _ (a.u.go rfl)).1;have af:i.length=j.aT.length:=by rw[<-a.u.m.nx,Yk]
    have Q:=Qp a.u.m (by omega) x.aH[h];have tk:(h:Int)<x.aH.length:=by omega
    unfold aK at d0;clear aI bj;generalize x.aH[h]=y at*;cases hp:dG j.aT y with
    |none=>
     rw[hp]at d Q;simp only at d;cases U:eH b fs bf j y with
     |none=>rw[U]at d;cases d
     |some p1=>
      rw[U]at d;simp only at d;have bh:p1.2.aT.length<=wk:=by
       by_cases r:p1.1=0
       ·rw[Yb (λe=>e r)]at d;have:=(qf (rh b fs bf) _ _ _ d).1;omega
       rw[Yd r]at d;have:=YW d;rw[this];exact bt
      have bU:=AY b fs bf j y p1 U;have bw:=a.u.d_;have CL:=aC (ih wr s w i j y p1 a.u.m bC U bh bw);have aW:=aC d;clear d U bh af;unfold ir iP at Q;go_wp2_with (first|(go_at_call 55;refine Q.mono ?_;rintro e w5⟨rfl,rfl⟩)|(go_at_call 53;refine CL.u.mono ?_;rintro e w6⟨⟨ev,rfl⟩,bK,bV,bJ,bm,aZ⟩;have J:=aC (a.u.cY (wk:=h+1) bm aZ (λr=>(by have:=aW.u;rw[Yb (λe=>e r)]at this;exact this)) (λr=>(by have:=aW.u;rw[Yd r]at this;exact(YW this).symm)) (by omega));clear bm aZ))
      first
       |exact⟨⟨h+1,p1.1,_,_,_,_,by go_num,by omega,J⟩,by simp only[aV];omega⟩
       |(go_roundw;exact⟨h+1,p1.1,_,_,_,_,by go_num,by omega,J⟩;simp only[aV];omega)
    |some k=>
     rw[hp]at d Q;simp only at d;obtain⟨bA,-⟩:=wQ hp;obtain⟨aN,cN,gN,au,aG,a8⟩:=a.u.m.vm;subst au;have E:k<i.length:=by omega
     obtain rfl:=aG (by omega);have H:=a.u.m.row.cell 1 (by simp);simp only[X6,X7]at H;have o5:=a8 k E 5 _ rfl;have bd:cA j k=i[k].1:=by unfold cA;rw[Yf,<-a.u.m.nx,Za,X9 E];rfl
     rw[bd]at d;have bZ:¬(k:Int)<0:=by omega
     have bB:(k:Int)<i.length:=by omega
     unfold ir iP at Q;clear a8 aG bd af bA;cases a1:i[k].1.2 with
     |true=>
      rw[a1]at d o5;rw[Yd rfl]at d;have J:=aC (a.u.cY (wk:=h+1) a.u.m (jM.refl _ _ _ _) (λ_=>d) (λe=>absurd rfl e) a.u.d_);clear d;go_wp2_with (go_at_call 55;refine Q.mono ?_;rintro e w5⟨rfl,rfl⟩)
      first
       |exact⟨⟨h+1,0,_,_,_,_,by go_num,by omega,J⟩,by simp only[aV];omega⟩
       |(go_roundw;exact⟨h+1,0,_,_,_,_,by go_num,by omega,J⟩;simp only[aV];omega)
     |false=>
      rw[a1]at d o5;rw[Yb (by decide)]at d;obtain⟨q1,q2⟩:=a.u.m.cH 7;have J:=aC (a.u.cY (wk:=h+1) q1 q2 (λe=>(by cases e)) (λ_=>(YW d).symm) a.u.d_);have f3:=a.u.m.row.frozen 3;clear d q1 q2;go_wp2_with (go_at_call 55;refine Q.mono ?_;rintro e w5⟨rfl,rfl⟩)
      first
       |exact⟨⟨h+1,7,_,_,_,_,by go_num,by omega,J⟩,by simp only[aV];omega⟩
       |(go_roundw;exact⟨h+1,7,_,_,_,_,by go_num,by omega,J⟩;simp only[aV];omega)
   have aB:Hid (z=(l,j)):=aC (by
    by_cases r:l=0
    ·have Y:=a.u.go r;rw[Zz (by omega)]at Y;have R:some (0,j)=some z:=Y;rw[r];exact(YW R).symm
    exact a.u.st r)
   have af:i.length=j.aT.length:=by rw[<-a.u.m.nx,Yk]
   have bP:z.2.aT.length=j.aT.length:=by rw[aB.u]
   have E:c.length<i.length:=by have:=ai.u;omega
   obtain⟨gN,cN,au,-,-⟩:=dv a.u.m.aT (by omega);subst au;obtain⟨M,o2⟩:=a.u.m.cL E;unfold World.ψ at M;have H:=a.u.m.row.cell 1 (by simp);have bz:=M.row.cell 2 (by simp);simp only[X6,X7]at H bz;have fz:=wH a.u.m.aT (c.length*7+5);have cl:=gY a.u.m.aT (c.length*7+5) _ ((Cx i c.length 5 E (by decide)).trans rfl);obtain⟨ao,co,rfl⟩:=dR a.u.m.aY;have bI:=a.u.d_;have bB:(c.length:Int)<i.length:=by omega
   have a2:=a.u.fr;have aU:=M.aY;have bH:=M.row.lt;clear a af;have t9:j.aY.length<=1000000000:=by omega
   have ba:Hid ((wr.ψ gN (c.length*7+5) (.bool true)).heap.size=wr.heap.size):=aC (by simp);by_cases C:h<x.aH.length
   ·have r:¬l=0:=λe=>hz ⟨e,C⟩;have te:((l:Int)==0)=false:=by rw[Yi];omega
    have tk:(h:Int)<x.aH.length:=by omega
    go_wp2_with (at_builtin;go_loud (refine YS _ rfl (.tmp 91) (.tmp 93) 41 rfl (wb+1) 3 i1 (ι 0) 1 8 aeA aP.u aR.u a7.u bl.u rfl (by decide) _ j.aY.length _ rfl (Yz aU _) (η _ 0) 1 1 [ι (c.length:Int)] rfl rfl (by have:=Zl (wr.ψ gN (c.length*7+5) (.bool true)) (ι (c.length:Int)) 3;rw[ba.u]at this;exact this) (by intro u N;simp at N;subst N;rfl) (by unfold maxLen;omega) (by omega) (by rw[X_];omega) ?_;intro v3 w5 B X ak S;obtain⟨s1,s2,Z⟩:=M.d_ (k:=c.length) ((YZ _ _ _).trans X) B (by rcases S with e|e;exact .inl e;exact .inr ⟨_,e,by rw[X_];omega⟩);obtain⟨a3,k3,rfl⟩:=dR B;have e2:=Z.cell 2 (by simp);have f2:=Z.frozen 2;simp only[X6,X7]at e2;clear B X ak S Z))
    go_end0
    refine⟨⟨_,rfl⟩,_,_,i.set c.length (((i[c.length]'E).1.1,true),(i[c.length]'E).2),?_,((aM.trans a2).trans o2).trans s2⟩;rw[aB.u,<-ai.u];exact s1
   have tk:¬(h:Int)<x.aH.length:=by omega
   go_wp2_with (at_builtin;go_loud (refine YS _ rfl (.tmp 91) (.tmp 93) 41 rfl (wb+1) 3 i1 (ι 0) 1 8 aeA aP.u aR.u a7.u bl.u rfl (by decide) _ j.aY.length _ rfl (Yz aU _) (η _ 0) 1 1 [ι (c.length:Int)] rfl rfl (by have:=Zl (wr.ψ gN (c.length*7+5) (.bool true)) (ι (c.length:Int)) 3;rw[ba.u]at this;exact this) (by intro u N;simp at N;subst N;rfl) (by unfold maxLen;omega) (by omega) (by rw[X_];omega) ?_;intro v3 w5 B X ak S;obtain⟨s1,s2,Z⟩:=M.d_ (k:=c.length) ((YZ _ _ _).trans X) B (by rcases S with e|e;exact .inl e;exact .inr ⟨_,e,by rw[X_];omega⟩);obtain⟨a3,k3,rfl⟩:=dR B;have e2:=Z.cell 2 (by simp);have f2:=Z.frozen 2;simp only[X6,X7]at e2;clear B X ak S Z))
   go_end0
   refine⟨⟨_,rfl⟩,_,_,i.set c.length (((i[c.length]'E).1.1,true),(i[c.length]'E).2),?_,((aM.trans a2).trans o2).trans s2⟩;rw[aB.u,<-ai.u];exact s1
theorem H8{L0:ay}{wb bb:Nat}{fs:fy}{b:Bk}{P M:Nat}(a:Lk L0 b fs P M):∀f,Dq L0 wb bb fs b P M f
 |0=>λ_ _ _ _ _ _ _ _ _ d=>by cases d
 |f+1=>PM a (H8 a f)
def SY(h:U.Nodup)(n:aj):(dj U n).Nodup:=by
 unfold dj;split
 ·exact h
 rename_i q;have d:n∉U:=λe=>q (by unfold eo;exact Y6 e);rw[ZK];exact⟨h,by simp,λa f b i=>by rw[Yc.1 i];exact λe=>d (e▸f)⟩
def Qj(h:D∈dj U j):D∈U\/D=j:=by
 unfold dj at h;split at h
 ·exact .inl h
 obtain h|h:=Yv.1 h
 ·exact .inl h
 exact .inr (Yc.1 h)
theorem Cr:∀(d a:fv),(a.Nodup->(d.foldl dj a).Nodup)/\∀x∈d.foldl dj a,x∈a\/x∈d
 |[],a=>⟨id,λx f=> .inl f⟩
 |n::d,a=>by
  have⟨i,j⟩:=Cr d (dj a n);refine⟨λh=>i (SY h n),λx f=>?_⟩;obtain h|h:=j x f
  ·obtain h|h:=Qj h
   ·exact .inl h
   exact .inr (h▸Yq ..)
  exact .inr (Yp _ h)
theorem Ap(b:aj):∀(rs:List Ru) (a:fv),(a.Nodup->(rs.foldl (λa d=>if dz b d=true then d.nd.foldl dj a else a) a).Nodup)/\∀x∈rs.foldl (λa d=>if dz b d=true then d.nd.foldl dj a else a) a,x∈a\/x∈rs.flatMap (·.nd)
 |[],a=>⟨id,λx f=> .inl f⟩
 |d::rs,a=>by
  rw[YP];by_cases m:dz b d=true
  ·rw[Yd m];have⟨j,i⟩:=Ap b rs (d.nd.foldl dj a);have⟨o,n⟩:=Cr d.nd a;refine⟨λh=>j (o h),λx f=>?_⟩;rw[YA,Yv];obtain h|h:=i x f
   ·obtain h|h:=n x h
    ·exact .inl h
    exact .inr (.inl h)
   exact .inr (.inr h)
  rw[Yb m];have⟨j,i⟩:=Ap b rs a;refine⟨j,λx f=>?_⟩;rw[YA,Yv];obtain h|h:=i x f
  ·exact .inl h
  exact .inr (.inr h)
def rU(b:Bk)(a:fy):fv:=b.aG.flatMap (·.nd)++(a.map (·.aL)++b.aG.flatMap (·.tg))
def G9(b:Bk)(g:fy)(e:aj):(de b g e).1.aH.Nodup/\∀x∈(de b g e).1.aH,x∈rU b g:=by
 have c:∀a:fv,a.Nodup->(∀x∈a,x∈rU b g)->(mG b e a).Nodup/\∀x∈mG b e a,x∈rU b g:=λa G D=>by
  have⟨j,p⟩:=Ap e b.aG a;refine⟨j G,λx i=>?_⟩;obtain h|h:=p x i
  ·exact D x h
  exact YK _ h
 have r:=c [] Z' λx i=>(by cases i);unfold de;split
 ·cases u:ki b g e with
  |none=>exact r
  |some y=>
   simp only;have⟨j,p⟩:=Cr ((b.aG.getD y db).nd.map λn=>cW n (gB ((b.aG.getD y db).tg.headD []) e)) [];refine c _ (j Z') λx i=>?_;obtain h|h:=p x i
   ·cases h
   obtain⟨n,J,rfl⟩:=YC.1 h;unfold ki at u;have o:=(aeV.1 u).1;unfold gV at o;simp only[Zn]at o;have d:=uu.1 o.2.2.2 n J;unfold kF at d;rw[afw]at d;refine YQ _ ?_;obtain d|d:=d
   ·have⟨f,v⟩:=Option.isSome_iff_exists.1 d;refine YK _ (YC.2 ⟨f,YV v,?_⟩);simpa using (afx v)
   unfold kK at d;have⟨z,I,m⟩:=Z1.1 d;unfold dz eo at m;rw[Zn]at m;exact YQ _ (x'.2 ⟨z,I,q9 m.1⟩)
 exact r
def AP(h:iM L b k)(m:gD (fs.map (·.aL))<=1048576)(c:aj):gD (de b fs c).1.aH<=1304704:=by have⟨j,i⟩:=G9 b fs c;have f:=BP _ _ j i;unfold rU at f;rw[uy,uy]at f;have:=wP (λa:Ru=>a.nd) 2001 b.aG λa d=>(h.ru a d).2.2.2.2.2.2.2;have:=wP (λa:Ru=>a.tg) 2001 b.aG λa d=>(h.ru a d).2.2.2.2.2.2.1;have:b.aG.length*2001<=64*2001:=Zs _ h.fU;omega
def Qs(R:nL W bb fs b)(y:nM b)(N:∀d∈b.aG,d.tg≠[]):
 δ 52 #[π bb] W (σ (qx b)):=by
 have an:=y.fU;go_enter func52,ntmps52;go_wp2_with fail
 go_loopw [3] (λv wr=>∃f:Nat,v= ι f/\f<=b.aG.length/\Hid (∀i,i<f->(λd=> !d.cD&& !d.ph) (b.aG.getD i db)=false)/\wr=W) (λv _=>b.aG.length-aV v)
 case atStart=>exact⟨0,rfl,Yh _,λi hj=>(by omega),rfl⟩
 obtain⟨f,rfl,hi,m,l⟩:=hrel;subst l;obtain⟨a,k,rb,F,c2,p,x⟩:=R.aG;by_cases j:f<b.aG.length
 ·obtain⟨rfl,al⟩:=p (by omega);obtain⟨vt,vn,K,vl,c⟩:=x f j;have D:=rD j;have M:Hid ((λd=> !d.cD&& !d.ph) b.aG[f]=true->qx b=b.aG[f].tg.headD []):=λh=>by unfold qx;rw[R' m.u j h];rfl
  have Q:=N _ (Ym j);have J:b.aG[f].tg.headD []=b.aG[f].tg[0]'(Y5.2 Q):=FO _;generalize b.aG[f]=d at*;obtain⟨a1,t,a2,k2,U,L,Y,k4,rfl,rfl,rfl,rfl⟩:=c.jm;obtain⟨d0,T,B,C,Z,O,s,w,af,X⟩:=c;have r:(f:Int)<b.aG.length:=by omega
  obtain⟨ai,ah,P,A,g,I,E⟩:=s;have H:=Y5.2 Q;obtain⟨rfl,-⟩:=I H;cases g;have G:=E 0 H;rw[ZH]at G;unfold aK at G;rw[J]at M
  have o:Hid (∀q,(λd=> !d.cD&& !d.ph) d=q->(λd=> !d.cD&& !d.ph) (b.aG.getD f db)=q):=λq e=>by rw[D];exact e
  cases V:d.cD with
  |true=>
   rw[V]at Z;have n:=aC ((show (λd=> !d.cD&& !d.ph) d=false by simp[*]));go_wp2_with fail
   first
    |exact⟨⟨f+1,by go_num,by omega,aC (iE (p:=λi=>(λd=> !d.cD&& !d.ph) (b.aG.getD i db)) m.u (o.u _ n.u)),by trivial⟩,by simp only[aV];omega⟩
    |(go_roundw;exact⟨f+1,by go_num,by omega,aC (iE (p:=λi=>(λd=> !d.cD&& !d.ph) (b.aG.getD i db)) m.u (o.u _ n.u)),by trivial⟩;simp only[aV];omega)
  |false=>
   rw[V]at Z;cases S:d.ph with
   |true=>
    rw[S]at O;have n:=aC ((show (λd=> !d.cD&& !d.ph) d=false by simp[*]));go_wp2_with fail
    first
     |exact⟨⟨f+1,by go_num,by omega,aC (iE (p:=λi=>(λd=> !d.cD&& !d.ph) (b.aG.getD i db)) m.u (o.u _ n.u)),by trivial⟩,by simp only[aV];omega⟩
     |(go_roundw;exact⟨f+1,by go_num,by omega,aC (iE (p:=λi=>(λd=> !d.cD&& !d.ph) (b.aG.getD i db)) m.u (o.u _ n.u)),by trivial⟩;simp only[aV];omega)
   |false=>
    rw[S]at O;have z:=aC (M.u ((show (λd=> !d.cD&& !d.ph) d=true by simp[*])));go_wp2_with fail
    go_ret;exact⟨by rw[z.u];rfl,rfl⟩
 have r:¬(f:Int)<b.aG.length:=by omega
 have z:Hid (qx b=[]):=aC (by unfold qx;rw[Rj m.u j];rfl);go_wp2_with fail
 go_ret;exact⟨by rw[z.u];rfl,rfl⟩
def nI(t q:Wk):Prop:=t.aT.length<=q.aT.length/\∃a,q.aY=t.aY++a/\a.Nodup/\∀d∈a,t.aT.length<=d/\d<q.aT.length
def nI.refl(t:Wk):nI t t:=⟨X0 _,[],by simp,Z',λd a=>(by cases a)⟩
def nI.trans(u:nI V Z)(k:nI Z h):nI V h:=by
 have⟨E,p,n,r,i⟩:=u;have⟨D,x,z,m,f⟩:=k;refine⟨by omega,p++x,by rw[z,n,YB],ZK.2 ⟨r,m,λa o c y e=>?_⟩,λj d=>?_⟩
 ·have:=i a o;have:=f c y;omega
 obtain d|d:=Yv.1 d
 ·have:=i j d;omega
 have:=f j d;omega
theorem As(h:∀t n q,dY t n=some q->nI t q.2):∀(l:fv) (t:Wk) (q:Nat×Wk),gx dY l t=some q->nI t q.2
 |[],t,q,e=>by cases e;exact nI.refl _
 |n::l,t,q,e=>by
  unfold gx at e;cases d:dG t.aT n with
  |none=>
   rw[d]at e;simp only at e;cases a:dY t n with
   |none=>rw[a]at e;cases e
   |some f=>
    rw[a]at e;simp only at e;split at e
    ·cases e;exact h t n _ a
    exact(h t n f a).trans (As h l _ q e)
  |some f=>
   rw[d]at e;simp only at e;split at e
   ·exact As h l _ q e
   cases e;exact nI.refl _
theorem Hc(b:Bk)(g:fy):∀(f:Nat) (t:Wk) (n:aj) (q:Nat×Wk),eH b g f t n=some q->nI t q.2
 |0,_,_,_,e=>by cases e
 |f+1,t,n,q,e=>by
  rw[eH]at e;split at e
  ·cases e;exact nI.refl _
  cases j:gx (eH b g f) (de b g n).1.aH (fq t (de b g n).1) with
  |none=>rw[j]at e;cases e
  |some h=>
   rw[j]at e;cases e;have⟨m,v,r,o,i⟩:=As (Hc b g f) _ _ _ j;have p:(fq t (de b g n).1).aT.length=t.aT.length+1:=by unfold fq;simp
   have:(i_ h.2 t.aT.length).aT.length=h.2.aT.length:=by unfold i_;simp
   rw[p]at m i;show nI t (i_ h.2 t.aT.length);refine⟨by omega,v++[t.aT.length],?_,ZK.2 ⟨o,by simp,λa u c y e=>?_⟩,λx d=>?_⟩
   ·show h.2.aY++[_]=_;rw[r,YB];rfl
   ·have:=i a u;rw[Yc.1 y]at e;omega
   obtain d|d:=Yv.1 d
   ·have:=i x d;omega
   rw[Yc.1 d];omega
def vK(Q:Nr->Prop)(t:Wk):Prop:=∀y∈t.aT,Q y.1
theorem Br{Q:Nr->Prop}(h:∀t n q,n.length<=L->dY t n=some q->vK Q t->vK Q q.2):∀(l:fv) (t:Wk) (q:Nat×Wk),(∀n∈l,n.length<=L)->gx dY l t=some q->vK Q t->vK Q q.2
 |[],t,q,_,e,a=>by cases e;exact a
 |n::l,t,q,i,e,a=>by
  have o:∀n∈l,n.length<=L:=λm r=>i m (Yp _ r);unfold gx at e;cases f:dG t.aT n with
  |none=>
   rw[f]at e;simp only at e;cases d:dY t n with
   |none=>rw[d]at e;cases e
   |some j=>
    rw[d]at e;simp only at e;have p:=h t n j (i n (Yq ..)) d a;split at e
    ·cases e;exact p
    exact Br h l _ q o e p
  |some j=>
   rw[f]at e;simp only at e;split at e
   ·exact Br h l _ q o e a
   cases e;exact a
theorem JF{Q:Nr->Prop}{P:Nat}(b:Bk)(g:fy)(j:∀n,n.length<=P->Q (de b g n).1)(h:∀name x,x∈(de b g name).1.aH->x.length<=P):∀(f:Nat) (t:Wk) (n:aj) (q:Nat×Wk),n.length<=P->eH b g f t n=some q->vK Q t->vK Q q.2
 |0,_,_,_,_,e,_=>by cases e
 |f+1,t,n,q,r,e,m=>by
  rw[eH]at e;split at e
  ·cases e;exact m
  cases d:gx (eH b g f) (de b g n).1.aH (fq t (de b g n).1) with
  |none=>rw[d]at e;cases e
  |some p=>
   rw[d]at e;cases e;have o:=Br (JF b g j h f) _ _ _ (h n) d (λy a=>by
    obtain a|a:=Yv.1 a
    ·exact m y a
    rw[Yc.1 a];exact j n r)
   intro y a;obtain c|c:=HJ a
   ·exact o y c
   rw[c];show Q (cA p.2 t.aT.length).1;have i:t.aT.length<p.2.aT.length:=Yo (by unfold fq;simp) (qf (rh b g f) _ _ _ d).1;unfold cA;rw[Yf,X9 i];exact o _ (Ym i)
structure xI(b:Bk)(x:Nr):Prop where
 name:x.name.length<=1310000
 stem:x.stem.length<=1310000
 sum:gD x.aH<=1304704
 Ls:∀i,x.gW =some i->i<b.aG.length
theorem sU:∀l:fv,l.length<=gD l/\(l.headD []).length<=gD l/\∀x∈l,x.length<=gD l
 |[]=>⟨X0 _,X0 _,λx a=>(by cases a)⟩
 |y::f=>by
  obtain⟨h,-,d⟩:=sU f;rw[nW];refine⟨by rw[Ya];omega,by show y.length<=_;omega,λx a=>?_⟩;obtain rfl|a:=YD.1 a
  ·omega
  have:=d x a;omega
def Rh(h:iM L b k)(n:gD (fs.map (·.aL))<=1048576)(name:aj)(r:name.length<=1304704):xI b (de b fs name).1:=by
 have o:(de b fs name).1.name=name:=by
  unfold de;split
  ·cases ki b fs name<;>rfl
  rfl
 refine⟨by rw[o];omega,?_,AP h n name,λf a=>?_⟩
 ·unfold de;split
  ·cases ki b fs name with
   |none=>exact Yh _
   |some f=>exact Ye (Hh _ _) (by omega)
  exact Yh _
 have i:∀(j:Nat->Bool) (m:Nat),(List.range m).find? j=some f->f<m:=λj m e=>ZX.1 (YV e);unfold de at a;split at a
 ·cases d:ki b fs name with
  |none=>rw[d]at a;cases a
  |some p=>rw[d]at a;cases a;exact i _ _ d
 exact i _ _ a
def tX(U:fv)(t:Wk):Prop:=(t.aT.map (·.1.name)).Nodup/\∀y∈t.aT,y.1.name∈U
def FJ:(de b fs j).1.name=j:=by
 unfold de;split
 ·cases ki b fs j<;>rfl
 rfl
def Ty(h:dG en j=none):j∉en.map (·.1.name):=λe=>by have⟨y,d,a⟩:=YC.1 e;have:=Zg.1 h y d;rw[a]at this;simp at this
def E9(a:k<V.aT.length):(i_ V k).aT.map (·.1.name)=V.aT.map (·.1.name):=by
 unfold i_;have e:(cA V k).1=(V.aT[k]).1:=by unfold cA;rw[Yf,X9 a];rfl
 rw[afp,e];have:(V.aT.map (·.1.name))[k]'(by simpa using a)=(V.aT[k]).1.name:=YT ..;show(V.aT.map (·.1.name)).set k (V.aT[k]).1.name=_;rw[<-this,adB]
theorem AV(h:∀t n q,n∈U->dG t.aT n=none->dY t n=some q->tX U t->tX U q.2):∀(l:fv) (t:Wk) (q:Nat×Wk),(∀n∈l,n∈U)->gx dY l t=some q->tX U t->tX U q.2
 |[],t,q,_,e,a=>by cases e;exact a
 |n::l,t,q,i,e,a=>by
  have o:∀n∈l,n∈U:=λm r=>i m (Yp _ r);unfold gx at e;cases d:dG t.aT n with
  |none=>
   rw[d]at e;simp only at e;cases f:dY t n with
   |none=>rw[f]at e;cases e
   |some j=>
    rw[f]at e;simp only at e;have p:=h t n j (i n (Yq ..)) d f a;split at e
    ·cases e;exact p
    exact AV h l _ q o e p
  |some j=>
   rw[d]at e;simp only at e;split at e
   ·exact AV h l _ q o e a
   cases e;exact a
theorem H_{U:fv}(b:Bk)(g:fy)(p:∀x∈rU b g,x∈U):∀(f:Nat) (t:Wk) (n:aj) (q:Nat×Wk),n∈U->dG t.aT n=none->eH b g f t n=some q->tX U t->tX U q.2
 |0,_,_,_,_,_,e,_=>by cases e
 |f+1,t,n,q,H,u,e,j=>by
  rw[eH]at e;split at e
  ·cases e;exact j
  cases h:gx (eH b g f) (de b g n).1.aH (fq t (de b g n).1) with
  |none=>rw[h]at e;cases e
  |some r=>
   rw[h]at e;cases e;have D:tX U (fq t (de b g n).1):=by
    refine⟨?_,λy d=>?_⟩
    ·show((t.aT++[((de b g n).1,false)]).map (·.1.name)).Nodup;rw[Yy,ZK];refine⟨j.1,by simp,λa i c v e=>?_⟩;have E:c=n:=by
      have:c=(de b g n).1.name:=by simpa using v
      rw[this,FJ]
     exact Ty u (E▸e▸i)
    obtain d|d:=Yv.1 d
    ·exact j.2 y d
    rw[Yc.1 d];show(de b g n).1.name∈U;rw[FJ];exact H
   have i:=AV (H_ b g p f) _ _ _ (λx G=>p x ((G9 b g n).2 x G)) h D;have m:t.aT.length<r.2.aT.length:=Yo (by unfold fq;simp) (qf (rh b g f) _ _ _ h).1;refine⟨by rw[E9 m];exact i.1,λy d=>?_⟩;have o:y.1.name∈(i_ r.2 t.aT.length).aT.map (·.1.name):=YC.2 ⟨y,d,rfl⟩;rw[E9 m]at o;have⟨z,J,I⟩:=YC.1 o;rw[<-I];exact i.2 z J
structure tM(b:Bk)(fs:fy)(t:Wk):Prop where
 nd:(t.aT.map (·.1.name)).Nodup
 len:t.aT.length<=1310000
 d_:t.aY.Nodup
 ol:t.aY.length=t.aT.length
 lt:∀i∈t.aY,i<t.aT.length
 sz:∀y∈t.aT,xI b y.1
def look_size(h:iM L b k)(u:gD (fs.map (·.aL))<=1048576)(O:j.length<=2000)(q:eH b fs wk jR j=some es):tM b fs es.2:=by
 have M:∀name x,x∈(de b fs name).1.aH->x.length<=1304704:=λname x i=>Ye ((sU _).2.2 x i) (AP h u name);have m:=H_ (U:=j::rU b fs) b fs (λx i=>Yp _ i) wk jR j es (Yq ..) rfl q ⟨Z',λy d=>(by cases d)⟩;have v:=JF (Q:=xI b) (P:=1304704) b fs (λn I=>Rh h u n I) M wk jR j es (by omega) q (λy d=>(by cases d));obtain⟨-,z,J,E,G⟩:=Hc b fs wk jR j es q;have r:es.2.aY=z:=by rw[J];rfl
 refine⟨m.1,?_,by rw[r];exact E,by have:=AY b fs wk jR j es q;have:jR.aT.length=0:=rfl;have:jR.aY.length=0:=rfl;omega,λN H=>(G N (r▸H)).2,v⟩;have p:=BP _ (j::rU b fs) m.1 (λx i=>by obtain⟨y,d,rfl⟩:=YC.1 i;exact m.2 y d);have D:=(sU (es.2.aT.map (·.1.name))).1;rw[Yk]at D;rw[nW]at p;unfold rU at p;rw[uy,uy]at p;have:=wP (λa:Ru=>a.nd) 2001 b.aG λa o=>(h.ru a o).2.2.2.2.2.2.2;have:=wP (λa:Ru=>a.tg) 2001 b.aG λa o=>(h.ru a o).2.2.2.2.2.2.1;have:b.aG.length*2001<=64*2001:=Zs _ h.fU;omega
def SA(h:xI b el):zm (tZ (fa b el)):=by
 have:=sU el.aH;have:=h.sum;refine⟨h.name,?_,?_,h.stem⟩
 ·show(el.aH.headD []).length<=_;omega
 show([32].intercalate el.aH).length<=_;have:=Gy el.aH;omega
def Im(hF:DA m j D)(am:∀i,ji (m.foldl Pl.bA []) j D i->i.2.1=0->i.1.length<=8388608)(ef:ga)(S:fv)(a s:fY)(dx b Z P L be oe:Nat)(g:Int)(W:ay)(ha:0<m.length->a=some ⟨b,Z,none⟩)(hr:eJ W b Z m)(t:b<W.heap.size)(hg:dq W)(hE:oU W L be oe s ef S)(hL:L<=W.heap.size)(ao:∀f∈m,f.aL∈S)(aw:∀n∈S,n.length<=maxLen):
 Calls prog 20 #[.slice a m.length dx,σ j,σ D,.slice s ef.length P,ι g] W λe W'=>Df m j D ef g W e W':=by
 unfold σ ι;have C1:Hid (∀h,μ W h->Calls prog 11 #[.slice a m.length dx,σ j,σ D] h λe W'=>vu (m.foldl Pl.bA []) j D h e W'):=λh p=>E4 hF a dx b Z h ha (hr.aP p t) (Yo t p.size) (hg.aD p);have C2:∀h (l:aj),l.length<=8388608->μ W h->Calls prog 30 #[σ l,.slice a m.length dx,.slice s ef.length P,ι g] h λe W'=>yA l m ef g h e W':=λh l hl p=>M1 l hl m ef S a s dx b Z P L be oe g h ha (hr.aP p t) (Yo t p.size) hF.fU (hE.tn (Tn.aD (p:=λ_=>False) p) hL (λk e=>e.elim)) (Ye hL p.size) ao aw;go_in;have ar:(W.alloc (.cells #[ς,ς,ι 0,ι 0] 48)).heap.size=W.heap.size+1:=X_ _ _;have av:μ W (W.alloc (.cells #[ς,ς,ι 0,ι 0] 48)):=ak _ _;have aB:=aC (aF.bq W 48 [ς,ς,ι 0,ι 0]);have ap:=aC ar;have al:=aC av;go_wp2_with (go_at_call 11;refine(C1 _ al).mono ?_;rintro e h⟨i,aq,rfl,ai⟩;have T:=aC aq;have F:=aC (al.trans (ai.mono (by rw[ap.u];omega)));have d:=aB.aP ai (by rw[ap.u];omega);have w:=d.cell 0 (by simp);have U:=d.cell 1 (by simp);have Y:=d.cell 2 (by simp);have C:=d.cell 3 (by simp);have:=d.frozen 0;have:=d.frozen 1;have:=d.frozen 2;have:=d.frozen 3;simp only[X6,X7]at w U Y C;have A:=aC d;have O:Hid (W.heap.size<h.heap.size):=d.lt;have HZ:Hid (((i.2.1:Int) !=0)=false->i.2.1=0):=(λq=>(by have:=Zi.1 q;omega));have aK:Hid (((i.2.1:Int) !=0)=true->i.2.1≠0):=(λq=>(by have:=ZI.1 q;omega)))
 ·rename_i aI;have K:∀u0 u1 u2 u3,μ W ((((h.ψ W.heap.size 0 u0).ψ W.heap.size 1 u1).ψ W.heap.size 2 u2).ψ W.heap.size 3 u3):=λu0 u1 u2 u3=>(((F.setCell (p:=η W.heap.size 0) ax u0).setCell (p:=η W.heap.size 1) ax u1).setCell (p:=η W.heap.size 2) ax u2).setCell (p:=η W.heap.size 3) ax u3;have o:=(((A.set 0 (ς)).set 1 (ς)).set 2 (ι 0)).set 3 (ι 0);have V:=o.cell 0 (by simp);have R:=o.cell 1 (by simp);have Q:=o.cell 2 (by simp);have M:=o.cell 3 (by simp);simp only[Zd,Y0,X6,X7]at V R Q M;refine Yw (v:=.tuple #[sk,ι (i.2.1:Int),ι (i.2.2:Int)]) ?_ rfl ⟨K _ _ _ _,i,T,.inl ⟨aK (by first|assumption|simpa using aI),rfl⟩⟩;simp[results,results20,go_sem,V,R,Q,M,sk]
 have hz:=HZ (by assumption);refine(C2 h i.1 ((aC am).u i T hz) F).mono ?_;rintro e I⟨X,N⟩;have N:nu i.1 m ef g h.heap.size e I:=N;obtain⟨E,G,z,x,H,r,y,c,er,rfl⟩:=N.shape;have B:μ I (I.alloc (.cells #[.slice E G z,.slice x H r,ι y,ι c] 48)):=ak _ _;have d:=(A.aD X).aD B;have J:=aF.bq I 48 [.slice E G z,.slice x H r,ι y,ι c];have:=(A.aD X).lt;have w:=d.cell 0 (by simp);have U:=d.cell 1 (by simp);have Y:=d.cell 2 (by simp);have C:=d.cell 3 (by simp);have:=d.frozen 0;have:=d.frozen 1;have:=d.frozen 2;have:=d.frozen 3;have p0:=J.cell 0 (by simp);have p1:=J.cell 1 (by simp);have p2:=J.cell 2 (by simp);have p3:=J.cell 3 (by simp);simp only[X6,X7]at w U Y C p0 p1 p2 p3;go_upto_region 5 with fail
 generalize I.alloc (.cells #[.slice E G z,.slice x H r,ι y,ι c] 48)=W3 at*;go_wp2
 have o:=(((d.set 0 (.slice E G z)).set 1 (.slice x H r)).set 2 (ι y)).set 3 (ι c);have V:=o.cell 0 (by simp);have R:=o.cell 1 (by simp);have Q:=o.cell 2 (by simp);have M:=o.cell 3 (by simp);simp only[Zd,Y0,X6,X7]at V R Q M;have aA:=(F.tr X).trans (B.mono (by omega));have K:μ W ((((W3.ψ W.heap.size 0 (.slice E G z)).ψ W.heap.size 1 (.slice x H r)).ψ W.heap.size 2 (ι y)).ψ W.heap.size 3 (ι c)):=(((aA.setCell (p:=η W.heap.size 0) ax _).setCell (p:=η W.heap.size 1) ax _).setCell (p:=η W.heap.size 2) ax _).setCell (p:=η W.heap.size 3) ax _;have aM:=((((N.aD B).set (k:=0) O (.slice E G z)).set (k:=1) O (.slice x H r)).set (k:=2) O (ι y)).set (k:=3) O (ι c);refine Yw (v:=.tuple #[.agg #[.slice E G z,.slice x H r,ι y,ι c],ι er,ι 0]) ?_ rfl ⟨K,i,T,.inr ⟨hz,_,er,rfl,aM.bS (lg O)⟩⟩;simp[results,results20,go_sem,V,R,Q,M]



