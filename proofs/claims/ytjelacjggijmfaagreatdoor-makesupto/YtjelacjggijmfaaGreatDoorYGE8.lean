/- . -/
import Derived.Test.YtjelacjggijmfaaGreatDoorYGE7
set_option linter.all false
set_option maxHeartbeats 4000000
set_option maxRecDepth 100000
namespace Go.Proofs.YtjelacjggijmfaaGreatDoor
open Pl Mk Cp Proofs.Tryz
open RowKit MapKept ChangeMaps Maps
variable {i:hZ}{g:Nat×Nat}{d j vp ve v2 vo vv:az}{f bM:eh}{W X Y:ay}{L wk st bf bi a m:Nat}{c:Ad}{rb:Nat->Nat}{s:St}{l:dr}{ef:ga}{fs:fy}{us:List (Nat×fv)}{b k:f'}
structure Vq where
 nd:cI
 lk:Nat
 vn:az
 vc:az
def mz(q:Vq):f':=[aK q.nd.name,.bool q.nd.ph,q.vn,q.vc,aK q.nd.stem]
def nQ(q:Vq):f':=[aK q.nd.name,.bool q.nd.ph,q.vn,q.vc,aK q.nd.stem,ι (q.lk:Int)]
def lP(W:ay)(q:Vq):Prop:=gn W q.vn q.nd.aH/\pn W q.vc q.nd.aI
structure fA(W:ay)(L wk st:Nat)(c:Ad)(rb:Nat->Nat)(s:St)(vp:az)(l:dr)(bf bi:Nat)(ve:az)(ef:ga)(fs:fy)(aQ:Int)(us:List (Nat×fv))(v2 vo vv:az)(bM:eh)(qo qv:List Vq):Prop where
 fm:oF W wk c rb s vp l bf bi ve ef fs aQ v2 (.map (some st)) vo vv
 cD:lO W rb v2 us
 mp:bF W st (iH bM)
 opn:W.ownsRow L 313 6 vo qo.length (qo.flatMap nQ)
 oI:∀q∈qo,lP W q
 je:W.ownsRow L 197 5 vv qv.length (qv.flatMap mz)
 qd:∀q∈qv,lP W q
 lw:L<=wk
 ls:L<=st
 lW:L<=W.heap.size
 bS:c.nm<L/\c.bt<L/\c.pb<L/\c.bx<L/\bf<L/\bi<L/\0<L
section
variable {aQ:Int}{qo qv:List Vq}
def lP.bl{q:Vq}(h:lP W q)(a:Bl W X):lP X q:=⟨h.1.bl a,h.2.bl a⟩
def kr(c d:Nat)(b a:az)(k:Nat):Prop:=k=c\/k=d\/some k=b.ownBlock\/some k=a.ownBlock
def fA.type(h:fA W L wk st c rb s vp l bf bi ve ef fs aQ us v2 vo vv bM qo qv)(k:kr wk st vo vv a){e:TypeId}(b:W.heap[a]?=some (Obj.cells i e g)):e=193\/e=313\/e=197:=by
 obtain k|k|k|k:=k
 ·have:=h.fm.row;unfold aF at this;rw[k,this]at b;cases b;exact .inl rfl
 ·obtain⟨m,n,d,-⟩:=h.mp;rw[k,d]at b;cases b
 ·have⟨f,j,d⟩:=dZ h.opn a k.symm;rw[d]at b;cases b;exact .inr (.inl rfl)
 have⟨f,j,d⟩:=dZ h.je a k.symm;rw[d]at b;cases b;exact .inr (.inr rfl)
def fA.zB(h:fA W L wk st c rb s vp l bf bi ve ef fs aQ us v2 vo vv bM qo qv)(k:kr wk st vo vv a):L<=a:=by
 obtain k|k|k|k:=k
 ·rw[k];exact h.lw
 ·rw[k];exact h.ls
 ·exact(h.opn.lt a k.symm).1
 exact(h.je.lt a k.symm).1
def fA.same(h:fA W L wk st c rb s vp l bf bi ve ef fs aQ us v2 vo vv bM qo qv)(f:Tn (kr wk st vo vv) W X){e:TypeId}(k:W.heap[a]?=some (Obj.cells i e g))(d:e≠193)(b:e≠313)(j:e≠197):X.heap[a]?=W.heap[a]?:=f.block a (X8.1 k).1 (λq=>by obtain e|e|e:=h.type q k;exact d e;exact b e;exact j e)
def fA.bl(h:fA W L wk st c rb s vp l bf bi ve ef fs aQ us v2 vo vv bM qo qv)(b:Tn (kr wk st vo vv) W X):Bl W X:=⟨λ_ _ _ a=>h.same b a (by decide) (by decide) (by decide),λ_ _ _ a=>h.same b a (by decide) (by decide) (by decide),λ_ _ _ a=>h.same b a (by decide) (by decide) (by decide),λ_ _ _ a=>h.same b a (by decide) (by decide) (by decide),λ_ _ _ a=>h.same b a (by decide) (by decide) (by decide)⟩
def fA.aP(h:fA W L wk st c rb s vp l bf bi ve ef fs aQ us v2 vo vv bM qo qv)(a:Tn (kr wk st vo vv) W X):Below L W X:=a.aP h.lW (λ_ e=>h.zB e)
def fA.next(h:fA W L wk st c rb s vp l bf bi ve ef fs aQ us v2 vo vv bM qo qv)(a:Tn (kr wk st vo vv) W X){i k:List Vq}(T:aF X wk 193 [π c.bb,π c.bx,v2,.map (some st),d,j])(S:bF X st (iH f))(y:X.ownsRow L 313 6 d i.length (i.flatMap nQ))(B:∀q∈i,lP X q)(w:X.ownsRow L 197 5 j k.length (k.flatMap mz))(v:∀q∈k,lP X q):
 fA X L wk st c rb s vp l bf bi ve ef fs aQ us v2 d j f i k:=by
 have g:=h.aP a;have n:=h.bl a;have⟨H,I,A,K,J,M,E⟩:=h.bS;refine⟨⟨T,h.fm.bm.bl n (g.block _ H) (g.block _ I) (g.block _ A),h.fm.pw.tn a (λe=>by have:=h.zB e;omega) (λe=>by have:=h.zB e;omega) (λe=>by have:=h.zB e;omega),?_⟩,?_,S,y,B,w,v,h.lw,h.ls,Ye h.lW a.size,h.bS⟩
 ·have⟨m,F⟩:=h.fm.fQ;exact⟨m,(g.cell (p:=η 0 0) E).trans F⟩
 obtain q|⟨b,o,R,O,⟨P,N,t⟩,Q⟩:=h.cD
 ·exact .inl q
 have e:=h.same a t (by decide) (by decide) (by decide);refine .inr ⟨b,o,R,O,⟨P,N,e.trans t⟩,λr x G=>?_⟩;have⟨z,u,C,D⟩:=Q r x G;refine⟨?_,u,?_,D.bl n⟩
 ·unfold World.cell? at*;rw[e];exact z
 unfold World.cell? at*;rw[e];exact C
def fA.aD(h:fA W L wk st c rb s vp l bf bi ve ef fs aQ us v2 vo vv bM qo qv)(a:μ W X):fA X L wk st c rb s vp l bf bi ve ef fs aQ us v2 vo vv bM qo qv:=h.next (Tn.aD a) (h.fm.row.aD a) (h.mp.aD a) (bI h.opn (λk b=>a.block k (h.opn.lt k b).2)) (λq d=>(h.oI q d).bl (Bl.aP a)) (bI h.je (λk b=>a.block k (h.je.lt k b).2)) (λq d=>(h.qd q d).bl (Bl.aP a))
def fA.Le(h:fA W L wk st c rb s vp l bf bi ve ef fs aQ us v2 vo vv bM qo qv)(j:W.mapTurned X st)(u:bF X st (iH f)):fA X L wk st c rb s vp l bf bi ve ef fs aQ us v2 vo vv f qo qv/\Tn (kr wk st vo vv) W X:=by have d:Tn (kr wk st vo vv) W X:=mF j (.inr (.inl rfl));have i:∀(k:Nat) (n:hZ) (e:TypeId) (b:Nat×Nat),W.heap[k]?=some (Obj.cells n e b)->X.heap[k]?=W.heap[k]?:=λk n e b a=>(mF (p:=λk=>k=st) j rfl).block k (X8.1 a).1 (λq=>by obtain⟨x,v,w,y,o,-⟩:=j;rw[q,o]at a;cases a);have m:=h.bl d;exact⟨h.next d ((i _ _ _ _ h.fm.row).trans h.fm.row) u (bI h.opn (λk a=>by have⟨r,b,q⟩:=dZ h.opn k a;exact i k _ _ _ q)) (λq g=>(h.oI q g).bl m) (bI h.je (λk a=>by have⟨r,b,q⟩:=dZ h.je k a;exact i k _ _ _ q)) (λq g=>(h.qd q g).bl m),d⟩
def fA.VI(h:fA W L wk st c rb s vp l bf bi ve ef fs aQ us v2 vo vv bM qo qv){q:Vq}(x:lP W q)(n:X.ownsRow L 313 6 d (qo.length+1) (qo.flatMap nQ++nQ q))(b:W.grownBy X vo.ownBlock):
 aF X wk 193 [π c.bb,π c.bx,v2,.map (some st),vo,vv]/\fA (X.ψ wk 4 d) L wk st c rb s vp l bf bi ve ef fs aQ us v2 d vv bM (qo++[q]) qv/\Tn (kr wk st vo vv) W (X.ψ wk 4 d):=by
 have p:Tn (kr wk st vo vv) W X:=Tn.grown b (λk e=> .inr (.inr (.inl e.symm)));have g:=p.trans (Tn.set X (η wk 4) d (.inl rfl));have j:=h.fm.row.grown b (lT h.fm.row h.opn (by decide));have f:=h.bl g;have r:=lT j n (by decide);have u:=lT h.fm.row h.je (by decide);have y:vv.ownBlock=none\/vv.ownBlock≠vo.ownBlock:=by
  cases e:vv.ownBlock with
  |none=>exact .inl rfl
  |some k=>refine .inr (λq=>?_);have⟨F,D,z⟩:=dZ h.je k e;have⟨o,w,a⟩:=dZ h.opn k q.symm;rw[z]at a;cases a
 have A:=h.mp.kept b (λe=>by have⟨o,w,a⟩:=dZ h.opn st e.symm;obtain⟨C,E,B,-⟩:=h.mp;rw[B]at a;cases a);refine⟨j,h.next g (j.set 4 d) (A.setCell (CU (nV h.fm.row h.mp)) d) ?_ ?_ (cP (h.je.kept b y) u 4 d) (λm i=>(h.qd m i).bl f),g⟩
 ·have:=cP n r 4 d;rw[X4,Zq];simpa using this
 intro m i;obtain e|e:=Yv.1 i
 ·exact(h.oI m e).bl f
 rw[Yc]at e;subst e;exact x.bl f
end
def Tryz.TV:(Tryz.prog.info? 313).map (λa=>(a.zero,a.size,a.bytes))=some (some (.agg #[ε,.bool false,ς,ς,ε,ι 0]),6,96):=by kernel_rfl
def ym:(zeroValue 309).run prog W=.ok (ι 0) W:=by kernel_rfl
structure cT where
 bM:eh
 opn:List (cI×Nat)
 cL:List cI
def dW(s:St)(c:fy)(b:List (Nat×fv))(t:cT)(a:aj):Nat×cT:=
 if bP t.bM a=2 then(0,t) else if bP t.bM a=1 then(7,t)
 else if(eM s c b a).2=false then(8,t) else(0,{t with bM:=da t.bM a 1,opn:=t.opn++[((eM s c b a).1,0)]})
def mV(W:ay)(L f n:Nat)(c:Ad)(i:Nat->Nat)(s:St)(u:az)(l:dr)(g h:Nat)(r:az)(d:ga)(m:fy)(e:Int)(o:List (Nat×fv))(j:az)(t:cT):Prop:=∃k p b a,fA W L f n c i s u l g h r d m e o j k p t.bM b a/\(b.map λq=>(q.nd,q.lk))=t.opn/\a.map Vq.nd=t.cL
def Sb(q:Vq)(d:q.vn.oneCell' =true)(b:q.vc.oneCell' =true):∀u∈nQ q,u.oneCell' =true:=by
 intro u a;unfold nQ at a;simp only[YD,ZC,k8]at a;obtain e|e|e|e|e|e:=a
 ·subst e;rfl
 ·subst e;rfl
 ·subst e;exact d
 ·subst e;exact b
 ·subst e;rfl
 subst e;rfl
section
variable {aQ:Int}{t:cT}
def GI(name:aj)(k:Nat)(h:mV W L wk st c rb s vp l bf bi ve ef fs aQ us v2 t)(hx:∀x∈us,x.1<s.aG.length/\(bT s x.1).tg≠[]/\(∀y∈(bT s x.1).tg,y.length<=2000)/\x.2.length<=2000/\∀n∈x.2,n.length<=2000)(hn:us.length<=1073741824)(ag:Ok s k)(ah:name.length<=1073741824)(aM:t.bM.length<=4294967296)(aS:t.opn.length<=4294967296):
 Calls prog 142 #[π wk,σ name] W λe W'=>e=.returned (ι ((dW s fs us t name).1:Int))/\mV W' L wk st c rb s vp l bf bi ve ef fs aQ us v2 (dW s fs us t name).2/\Below L W W':=by
 have⟨i0,aw,ak,aA,ap⟩:=Y1 Tryz.TV;have⟨vo,vv,X,qv,b,m,C⟩:=h;have:=b.fm.row.cell? (i:=3) rfl;have J:=b.mp;have I:=aC (B4 name t.bM);have v:dW s fs us t name=if bP t.bM name=2 then(0,t) else if bP t.bM name=1 then(7,t) else if(eM s fs us name).2=false then(8,t) else(0,{t with bM:=da t.bM name 1,opn:=t.opn++[((eM s fs us name).1,0)]}):=rfl
 have Q:Hid (∀w,μ W w->mV w L wk st c rb s vp l bf bi ve ef fs aQ us v2 t/\Below L W w):=λw hw=>⟨⟨vo,vv,X,qv,b.aD hw,m,C⟩,hw.mono b.lW⟩;by_cases z:bP t.bM name=2
 ·rw[v,Yd z];have:((bP t.bM name:Int)==2)=true:=by rw[Zj];omega
  have HR:=Q W (X5 _ _);go_in;go_wp2_with (at_lookup;refine nk _ rfl _ _ 189 rfl 9 309 R2 Yj (ι 0) (ym) st (iH t.bM) rfl J name rfl _ I ?_)
  go_ret;exact⟨rfl,HR.1,HR.2⟩
 have:((bP t.bM name:Int)==2)=false:=by rw[Yi];omega
 by_cases M:bP t.bM name=1
 ·rw[v,Yb z,Yd M];have o:((bP t.bM name:Int)==1)=true:=by rw[Zj];omega
  have HR:=Q W (X5 _ _);go_in;go_wp2_with (at_lookup;refine nk _ rfl _ _ 189 rfl 9 309 R2 Yj (ι 0) (ym) st (iH t.bM) rfl J name rfl _ I ?_)
  go_ret;exact⟨rfl,HR.1,HR.2⟩
 have o:((bP t.bM name:Int)==1)=false:=by rw[Yi];omega
 rw[v,Yb z,Yb M];have G:=Rw us name k b.fm b.cD hx hn ag ah;have:X.length<=4294967296:=by
  have:X.length=t.opn.length:=by rw[<-m,Yk]
  omega
 generalize aN:eM s fs us name=nf at*;have⟨a,ok⟩:=nf;simp only at G⊢;cases ok with
 |false=>
  rw[Yd rfl];go_in;go_wp2_with (first|(at_lookup;refine nk _ rfl _ _ 189 rfl 9 309 R2 Yj (ι 0) (ym) st (iH t.bM) rfl J name rfl _ I ?_)|(go_at_call 189;refine G.mono ?_;rintro e o⟨vn,vc,rfl,B,E,r⟩;obtain⟨g,f,rfl⟩:=B.sh;obtain⟨V,d,rfl⟩:=E.sh;unfold aK;have HR:=Q _ (r.alloc r.size (.cells #[σ a.name,.bool a.ph,.slice g a.aH.length f,.slice V a.aI.length d,σ a.stem] 197))))
  go_ret;exact⟨rfl,HR.1,HR.2⟩
 |true=>
  rw[Yb (by simp)];go_in;go_wp2_with (first|(at_lookup;refine nk _ rfl _ _ 189 rfl 9 309 R2 Yj (ι 0) (ym) st (iH t.bM) rfl J name rfl _ I ?_)|(go_at_call 189;refine G.mono ?_;rintro e o⟨vn,vc,rfl,B,E,r⟩;obtain⟨g,f,rfl⟩:=B.sh;obtain⟨V,d,rfl⟩:=E.sh;unfold aK;have F:=(X5 o.heap.size o).alloc ax (.cells #[σ a.name,.bool a.ph,.slice g a.aH.length f,.slice V a.aI.length d,σ a.stem] 197);have D:=aC (b.aD (r.tr F));have:=D.fm.row.cell? (i:=3) rfl;have au:lP _ (⟨a,0,.slice g a.aH.length f,.slice V a.aI.length d⟩:Vq):=⟨B.bl (Bl.aP F),E.bl (Bl.aP F)⟩;have Z:=aC (aF.bq o 197 [σ a.name,.bool a.ph,.slice g a.aH.length f,.slice V a.aI.length d,σ a.stem]))|(at_mapUpdate;refine q_ _ rfl _ _ _ 189 rfl 9 309 R2 Yj st (iH t.bM) rfl D.mp (by unfold iH maxLen;rw[Yk];omega) name rfl (ι 1) rfl ?_;intro j O R;have T:=xZ name 1 t.bM;rw[show ((1:Nat):Int)=1 from rfl]at T;rw[T]at O;have⟨m3,U⟩:=D.Le R O;have N:=aC m3;have aB:=aC U;have A:Hid (aF j o.heap.size 197 [σ a.name,.bool a.ph,.slice g a.aH.length f,.slice V a.aI.length d,σ a.stem]):=Z.tn (mF (p:=λq=>q=st) R rfl) (nV Z D.mp)))
  have H:μ j (j.drew.alloc (.cells #[σ a.name,.bool a.ph,.slice g a.aH.length f,.slice V a.aI.length d,σ a.stem,ι 0] 313)):=((X5 j.heap.size j).drew).alloc ax _;have K:=N.aD H;have ad:=aF.bq j.drew 313 [σ a.name,.bool a.ph,.slice g a.aH.length f,.slice V a.aI.length d,σ a.stem,ι 0];have:=N.fm.row.cell? (i:=4) rfl;have:=A.cell? (i:=0) rfl;have:=A.cell? (i:=1) rfl;have:=A.cell? (i:=2) rfl;have:=A.cell? (i:=3) rfl;have:=A.cell? (i:=4) rfl;have:=N.fm.row.lt;have Y:=aC K.opn;have ac:Below L j (j.drew.alloc (.cells #[σ a.name,.bool a.ph,.slice g a.aH.length f,.slice V a.aI.length d,σ a.stem,ι 0] 313)):=H.mono N.lW;obtain⟨av,cv,rfl⟩:=fp Y;simp only[Act.put];go_region_law (first|(refine qZ rfl (.tmp 34) (.tmp 37) 191 rfl L 313 i0 _ 6 96 underlying191 aw ak aA ap rfl (by decide) _ X.length (X.flatMap nQ) (by rfl) Y (η j.heap.size 0) 1 1 [σ a.name,.bool a.ph,.slice g a.aH.length f,.slice V a.aI.length d,σ a.stem,ι 0] (by rfl) (by rfl) (λaO u hj=>by rw[jx];exact ad.cell? hj) (Sb ⟨a,0,.slice g a.aH.length f,.slice V a.aI.length d⟩ rfl rfl) (by unfold maxLen;omega) (by omega) K.lW ?_;intro v6 w6 P aa _;obtain⟨a6,c6,rfl⟩:=fp P;have⟨S,m6,f6⟩:=K.VI (q:=⟨a,0,.slice g a.aH.length f,.slice V a.aI.length d⟩) ((au.bl (D.bl U)).bl (Bl.aP H)) P aa;have:=S.cell? (i:=4) rfl;have:=S.frozen 4))
  all_goals go_wp2
  all_goals go_ret
  all_goals exact⟨rfl,⟨_,_,_,_,m6,by rw[Yy,(aC m).u];rfl,(aC C).u⟩,((((r.tr F).mono b.lW).trans (D.aP aB)).trans ac).trans (K.aP f6)⟩
end
def Tryz.Sh:(Tryz.prog.info? 197).map (λa=>(a.zero,a.size,a.bytes))=some (some (.agg #[ε,.bool false,ς,ς,ε]),5,88):=by kernel_rfl
def nA(t:cT):cT:=match t.opn.getLast? with
 |none=>t
 |some x=>⟨da t.bM x.1.name 2,t.opn.dropLast,if t.cL.length<=100 then t.cL++[x.1] else t.cL⟩
theorem uU:∀a:List Vq,(a.flatMap nQ).length=a.length*6
 |[]=>rfl|q::b=>by have:=uU b;rw[YA,X4,this,Ya];simp[nQ];omega
def Tq(h:W.ownsRow L wk st (ξ a (bf+1) bi) (bf+1) (b++k))(g:b.length=bf*st):W.ownsRow L wk st (ξ a bf bi) bf b:=by
 refine⟨g,?_⟩;obtain⟨d,-⟩|⟨u,q,f,d,i,o,r,j,p,m⟩:=h.2
 ·cases d
 cases d;refine .inr ⟨a,bi,f,rfl,i,o,by omega,j,p,?_⟩;have wk:(f.toList.take ((bf+1)*st)).take (bf*st)=f.toList.take (bf*st):=by rw[acX,mY (Zs _ (by omega))]
 rw[<-wk,m,<-g];exact acZ
def RY(q:Vq)(d:q.vn.oneCell' =true)(b:q.vc.oneCell' =true):∀u∈mz q,u.oneCell' =true:=by
 intro u a;unfold mz at a;simp only[YD,ZC,k8]at a;obtain e|e|e|e|e:=a
 ·subst e;rfl
 ·subst e;rfl
 ·subst e;exact d
 ·subst e;exact b
 subst e;rfl
section
variable {aQ:Int}{qo qv:List Vq}
def fA.WE{q:Vq}(h:fA W L wk st c rb s vp l bf bi ve ef fs aQ us v2 (ξ a (qo.length+1) m) vv bM (qo++[q]) qv):
 fA (W.ψ wk 4 (ξ a qo.length m)) L wk st c rb s vp l bf bi ve ef fs aQ us v2 (ξ a qo.length m) vv bM qo qv/\Tn (kr wk st (ξ a (qo.length+1) m) vv) W (W.ψ wk 4 (ξ a qo.length m)):=by have b:Tn (kr wk st (ξ a (qo.length+1) m) vv) W (W.ψ wk 4 (ξ a qo.length m)):=Tn.set W (η wk 4) _ (.inl rfl);have f:=h.bl b;have g:=h.opn;rw[X4,Ya,Yr,Zq]at g;have hcut:=Tq g (uU qo);have j:=lT h.fm.row hcut (by decide);have k:=lT h.fm.row h.je (by decide);exact⟨h.next b (h.fm.row.set 4 _) (h.mp.setCell (CU (nV h.fm.row h.mp)) _) (cP hcut j 4 _) (λd e=>(h.oI d (YK _ e)).bl f) (cP h.je k 4 _) (λd e=>(h.qd d e).bl f),b⟩
def fA.VT(h:fA W L wk st c rb s vp l bf bi ve ef fs aQ us v2 vo vv bM qo qv){q:Vq}(x:lP W q)(n:X.ownsRow L 197 5 d (qv.length+1) (qv.flatMap mz++mz q))(b:W.grownBy X vv.ownBlock):
 aF X wk 193 [π c.bb,π c.bx,v2,.map (some st),vo,vv]/\fA (X.ψ wk 5 d) L wk st c rb s vp l bf bi ve ef fs aQ us v2 vo d bM qo (qv++[q])/\Tn (kr wk st vo vv) W (X.ψ wk 5 d):=by
 have p:Tn (kr wk st vo vv) W X:=Tn.grown b (λk e=> .inr (.inr (.inr e.symm)));have g:=p.trans (Tn.set X (η wk 5) d (.inl rfl));have j:=h.fm.row.grown b (lT h.fm.row h.je (by decide));have f:=h.bl g;have r:=lT j n (by decide);have u:=lT h.fm.row h.opn (by decide);have y:vo.ownBlock=none\/vo.ownBlock≠vv.ownBlock:=by
  cases e:vo.ownBlock with
  |none=>exact .inl rfl
  |some k=>refine .inr (λq=>?_);have⟨F,D,z⟩:=dZ h.opn k e;have⟨o,w,a⟩:=dZ h.je k q.symm;rw[z]at a;cases a
 have A:=h.mp.kept b (λe=>by have⟨o,w,a⟩:=dZ h.je st e.symm;obtain⟨C,E,B,-⟩:=h.mp;rw[B]at a;cases a);refine⟨j,h.next g (j.set 5 d) (A.setCell (CU (nV h.fm.row h.mp)) d) (cP (h.opn.kept b y) u 5 d) (λm i=>(h.oI m i).bl f) ?_ ?_,g⟩
 ·have:=cP n r 5 d;rw[X4,Zq];simpa using this
 intro m i;obtain e|e:=Yv.1 i
 ·exact(h.qd m e).bl f
 rw[Yc]at e;subst e;exact x.bl f
def WJ(h:fA W L wk st c rb s vp l bf bi ve ef fs aQ us v2 vo vv bM qo qv)(i:bM.length<=4294967296)(j:aj):∃a,(Instr.mapUpdate 189 (.map (some st)) (σ j) (ι 2)).run prog W=.ok () a/\fA a L wk st c rb s vp l bf bi ve ef fs aQ us v2 vo vv (da bM j 2) qo qv/\Tn (kr wk st vo vv) W a/\W.mapTurned a st:=by have⟨a,g,d,e⟩:=h.mp.put (P:=prog) R2 Yj (by unfold iH maxLen;rw[Yk];omega) j (ι 2);have b:=xZ j 2 bM;rw[show ((2:Nat):Int)=2 from rfl]at b;rw[b]at d;have⟨m,f⟩:=h.Le e d;exact⟨a,g,m,f,e⟩
end
section
variable {aQ:Int}{qo qv:List Vq}{t:cT}
def qD(a:List Vq)(q:Vq)(b:Nat)(u:az)(h:(nQ q)[b]?=some u):((a++[q]).flatMap nQ)[a.length*6+b]?=some u:=by rw[Zq,YH (by rw[uU];omega),uU,ZP];simpa using h
def QQ(q:Vq)(b:fA W L wk st c rb s vp l bf bi ve ef fs aQ us v2 vo vv bM (qo++[q]) qv)(hl:bM.length<=4294967296)(hn:qo.length<=4294967296):
 Calls prog 190 #[π wk] W λe W'=>e=.returned (.tuple #[])/\(∃ak ao,fA W' L wk st c rb s vp l bf bi ve ef fs aQ us v2 ak ao (da bM q.nd.name 2) qo (if qv.length<=100 then qv++[q] else qv))/\Below L W W':=by
 have⟨i0,X,ai,aB,Y⟩:=Y1 Tryz.Sh;have k:=b.opn;rw[X4,Ya,Yr,YO]at k;obtain⟨-,e⟩|⟨n,m,aL,rfl,e2,K,e4,-⟩:=k.2
 ·omega
 have x:=b.oI q (by simp);have⟨g,f,I⟩:=x.1.sh;have⟨t,d,S⟩:=x.2.sh;have⟨a,B,vn,vc⟩:=q;simp only at I S;subst I S;have y:=gY k (qo.length*6+0) _ (qD qo _ 0 _ rfl);have R:=gY k (qo.length*6+1) _ (qD qo _ 1 _ rfl);have a2:=gY k (qo.length*6+2) _ (qD qo _ 2 _ rfl);have a3:=gY k (qo.length*6+3) _ (qD qo _ 3 _ rfl);have F:=gY k (qo.length*6+4) _ (qD qo _ 4 _ rfl);rw[ZH]at y;unfold aK at y F;simp only at y R a2 a3 F;have:=b.fm.row.cell? (i:=4) rfl;have:=b.fm.row.frozen 4;have:=b.fm.row.lt;have⟨G,D⟩:=b.WE;have O:(W.ψ wk 4 (ξ n qo.length m)).heap.size=W.heap.size:=by simp[World.setCell]
 have v:=(X5 (W.ψ wk 4 (ξ n qo.length m)).heap.size (W.ψ wk 4 (ξ n qo.length m))).alloc ax (.cells #[σ a.name,.bool a.ph,.slice g a.aH.length f,.slice t a.aI.length d,σ a.stem] 197);have C:=aF.bq (W.ψ wk 4 (ξ n qo.length m)) 197 [σ a.name,.bool a.ph,.slice g a.aH.length f,.slice t a.aI.length d,σ a.stem];rw[O]at C;have r:=G.aD v
 go_in;go_upto_region 3 with fail
 generalize (W.ψ wk 4 (ξ n qo.length m)).alloc (.cells #[σ a.name,.bool a.ph,.slice g a.aH.length f,.slice t a.aI.length d,σ a.stem] 197)=Z at*;have h:μ Z Z.drew:=(X5 _ Z).drew;have⟨j,aO,T,M,ab⟩:=WJ (r.aD h) hl a.name;have:=r.fm.row.cell? (i:=3) rfl;have:=C.cell? (i:=0) rfl;have U:=(((b.aP D).trans (v.mono G.lW)).trans (h.mono r.lW)).trans ((r.aD h).aP M);have o:aF j W.heap.size 197 [σ a.name,.bool a.ph,.slice g a.aH.length f,.slice t a.aI.length d,σ a.stem]:=(C.aD h).tn (mF (p:=λq=>q=st) ab rfl) (nV (C.aD h) (r.aD h).mp);have⟨av,cv,J⟩:=fp T.je;subst J;have:=T.fm.row.cell? (i:=5) rfl;by_cases N:qv.length<=100
 ·have:(qv.length:Int)<=100:=by omega
  have E:=aC N;have w:μ j (j.drew.alloc (.cells #[σ a.name,.bool a.ph,.slice g a.aH.length f,.slice t a.aI.length d,σ a.stem] 197)):=((X5 j.heap.size j).drew).alloc ax _;have z:=aC (T.aD w);have ah:=((((x.bl (b.bl D)).bl (Bl.aP v)).bl (Bl.aP h)).bl ((r.aD h).bl M)).bl (Bl.aP w);have af:=aF.bq j.drew 197 [σ a.name,.bool a.ph,.slice g a.aH.length f,.slice t a.aI.length d,σ a.stem];have:=o.cell? (i:=0) rfl;have:=o.cell? (i:=1) rfl;have:=o.cell? (i:=2) rfl;have:=o.cell? (i:=3) rfl;have:=o.cell? (i:=4) rfl;have:=T.fm.row.lt;go_region
  all_goals go_wp2
  all_goals go_region_law (first|(refine qZ rfl (.tmp 43) (.tmp 45) 130 rfl L 197 i0 _ 5 88 underlying130 X ai aB Y rfl (by decide) _ qv.length (qv.flatMap mz) (by rfl) z.je (η j.heap.size 0) 1 1 [σ a.name,.bool a.ph,.slice g a.aH.length f,.slice t a.aI.length d,σ a.stem] (by rfl) (by rfl) (λaN u hj=>by rw[jx];exact af.cell? hj) (RY ⟨a,B,.slice g a.aH.length f,.slice t a.aI.length d⟩ rfl rfl) (by unfold maxLen;omega) (by omega) z.lW ?_;intro v6 w6 A V _;obtain⟨a6,c6,rfl⟩:=fp A;have⟨H,P,Q⟩:=z.VT (q:=⟨a,B,.slice g a.aH.length f,.slice t a.aI.length d⟩) ah A V;have:=H.cell? (i:=5) rfl;have:=H.frozen 5))
  all_goals go_wp2
  all_goals go_end0
  all_goals exact⟨rfl,⟨_,_,by first|exact P|(rw [Yd E];exact P)⟩,(U.trans (w.mono T.lW)).trans (z.aP Q)⟩
 have:¬(qv.length:Int)<=100:=by omega
 have E:=aC N;go_region
 all_goals go_wp2
 all_goals go_end0
 all_goals exact⟨rfl,⟨_,_,by first|exact T|(rw [Yb E];exact T)⟩,U⟩
end
def gd(s:St)(a:fy)(b:List (Nat×fv))(t:cT):Nat×cT:=match t.opn.getLast? with|none=>(0,t)|some x=>if x.2=x.1.aH.length then(0,nA t) else dW s a b {t with opn:=t.opn.dropLast++[(x.1,x.2+1)]} (x.1.aH.getD x.2 [])
def wH(h:W.ownsRow L wk st (ξ a bf bi) bf b)(g:Nat):W.frozen? (η a g)=false:=by
 obtain⟨d,-⟩|⟨m,k,i,d,j,f,-⟩:=h.2
 ·cases d
 cases d;simp[World.frozen?,f]
section
variable {aQ:Int}{qo qv:List Vq}{t:cT}
def fA.Wf{t:Nat}{q:Vq}(h:fA W L wk st c rb s vp l bf bi ve ef fs aQ us v2 (ξ a (qo.length+1) t) vv bM (qo++[q]) qv):
 fA (W.ψ a (qo.length*6+5) (ι ((q.lk:Int)+1))) L wk st c rb s vp l bf bi ve ef fs aQ us v2 (ξ a (qo.length+1) t) vv bM (qo++[{q with lk:=q.lk+1}]) qv/\Tn (kr wk st (ξ a (qo.length+1) t) vv) W (W.ψ a (qo.length*6+5) (ι ((q.lk:Int)+1))):=by
 have g:Tn (kr wk st (ξ a (qo.length+1) t) vv) W (W.ψ a (qo.length*6+5) (ι ((q.lk:Int)+1))):=Tn.set W (η a (qo.length*6+5)) _ (.inr (.inr (.inl rfl)));have f:=h.bl g;have b:=h.opn;rw[X4,Ya,Yr,YO]at b;have k:=sR b (qo.length*6+5) (ι ((q.lk:Int)+1));have o:((qo++[q]).flatMap nQ).set (qo.length*6+5) (ι ((q.lk:Int)+1))=(qo++[{q with lk:=q.lk+1}]).flatMap nQ:=by rw[Zq,Zq,Zc _ _ (by rw[uU];omega),uU,ZP];rfl
 rw[o]at k;have r:a≠wk:=λe=>lT h.fm.row b (by decide) (by rw[<-e];rfl);have p:st≠a:=λe=>by have⟨z,v,d⟩:=dZ b a rfl;obtain⟨B,x,n,-⟩:=h.mp;rw[<-e,n]at d;cases d
 have u:some a≠vv.ownBlock:=λe=>by have⟨y,w,d⟩:=dZ h.je a e.symm;have⟨A,C,m⟩:=dZ b a rfl;rw[d]at m;cases m
 refine⟨h.next g (h.fm.row.dI (CU r) _ _) (h.mp.setCell p _) (by rw[X4];exact k) (λj i=>?_) (cP h.je u _ _) (λj i=>(h.qd j i).bl f),g⟩;obtain e|e:=Yv.1 i
 ·exact(h.oI j (YK _ e)).bl f
 rw[Yc]at e;subst e;exact(h.oI q (by simp)).bl f
def TC(k:Nat)(h:mV W L wk st c rb s vp l bf bi ve ef fs aQ us v2 t)(hx:∀x∈us,x.1<s.aG.length/\(bT s x.1).tg≠[]/\(∀y∈(bT s x.1).tg,y.length<=2000)/\x.2.length<=2000/\∀n∈x.2,n.length<=2000)(hn:us.length<=1073741824)(ai:Ok s k)(V:t.bM.length<=4294967296)(ax:t.opn.length<=4294967296)(x:cI×Nat)(g:t.opn.getLast?=some x)(ah:x.2<=x.1.aH.length)(aq:x.1.aH.length<=4294967296)(S:∀y∈x.1.aH,y.length<=1073741824):
 Calls prog 143 #[π wk] W λe v=>e=.returned (ι ((gd s fs us t).1:Int))/\mV v L wk st c rb s vp l bf bi ve ef fs aQ us v2 (gd s fs us t).2/\Below L W v:=by
 have⟨vo,vv,T,qv,f,d,E⟩:=h;obtain⟨N,q,rfl⟩:∃N q,T=N++[q]:=by
  obtain e|⟨a,b,e⟩:=adA T
  ·rw[e]at d;rw[<-d]at g;cases g
  exact⟨a,b,by rw[e,afC]⟩
 rw[Yy]at d;simp only[YE,Z9]at d;have ag:x=(q.nd,q.lk):=by rw[<-d]at g;simpa using g.symm
 have C:t.opn.dropLast=N.map λq=>(q.nd,q.lk):=by rw[<-d];simp
 have R:N.length+1=t.opn.length:=by rw[<-d];simp
 subst ag;simp only at ah aq S;have B:gd s fs us t=if q.lk=q.nd.aH.length then(0,nA t) else dW s fs us {t with opn:=t.opn.dropLast++[(q.nd,q.lk+1)]} (q.nd.aH.getD q.lk []):=by unfold gd;rw[g]
 have o:nA t=⟨da t.bM q.nd.name 2,t.opn.dropLast,if t.cL.length<=100 then t.cL++[q.nd] else t.cL⟩:=by unfold nA;rw[g]
 have j:=f.opn;rw[X4,Ya,Yr,YO]at j;obtain⟨-,e⟩|⟨ak,cap,ar,rfl,e2,e3,e4,-⟩:=j.2
 ·omega
 have I:=f.oI q (by simp);have a5:=gY j (N.length*6+5) _ (qD N q 5 _ rfl);have a2:=gY j (N.length*6+2) _ (qD N q 2 _ rfl);have⟨an,cn,M⟩:=I.1.sh;rw[M]at a2;have d4:=f.fm.row.cell? (i:=4) rfl
 have af:N.length<=4294967296:=by omega
 have:N.length+1<=4294967296:=by omega
 have HV:=aC E;have ac:=aC C;by_cases z:q.lk=q.nd.aH.length
 ·have:((q.lk:Int)==q.nd.aH.length)=true:=by rw[Zj];omega
  have Z:∀w,μ W w->Calls prog 190 #[π wk] w λe v=>e=.returned (.tuple #[])/\mV v L wk st c rb s vp l bf bi ve ef fs aQ us v2 (nA t)/\Below L W v:=λw hw=>by refine κ (QQ q (f.aD hw) V af) λw'⟨⟨am,ap,m'⟩,b'⟩=>?_;refine⟨rfl,⟨am,ap,N,_,by rw[o];exact m',by rw[o];exact C.symm,?_⟩,(hw.mono f.lW).trans b'⟩;rw[o,<-E];simp only[Yk];split<;>simp
  rw[B,Yd z];clear E j I e3 d C B o g z R;go_in;go_wp2
  go_region
  all_goals go_wp2
  all_goals go_region
  all_goals go_wp2_with (go_at_call 190;refine(Z _ (X5 _ W).drew.drew).mono ?_;clear Z;rintro e w1⟨rfl,r,A⟩;have J:=A;clear A)
  all_goals go_ret
  all_goals exact⟨rfl,r,J⟩
 have:((q.lk:Int)==q.nd.aH.length)=false:=by rw[Yi];omega
 have K:q.lk<q.nd.aH.length:=by omega
 have⟨Y,fL⟩:=f.Wf;have ao:=wH j (N.length*6+5);rw[B,Yb z];have p:=aC Y;have ae:=aC M;clear B o g z E j I e3 d C R Y M;have O:q.nd.aH.getD q.lk []=q.nd.aH[q.lk]:=by simp[K]
 rw[O];obtain⟨m,H⟩:∃m,m=W.ψ ak (N.length*6+5) (ι ((q.lk:Int)+1)):=⟨_,rfl⟩;rw[<-H]at p fL;unfold World.ψ at H;have U:=aC H;clear H;have G:μ m m.drew.drew.drew:=(X5 _ m).drew.drew.drew;have CE:=GI (t:={t with opn:=t.opn.dropLast++[(q.nd,q.lk+1)]}) q.nd.aH[q.lk] k ⟨_,vv,_,qv,p.aD G,by rw[Yy,ac.u];rfl,HV⟩ hx hn ai (S _ (Ym K)) V (by simp only;rw[ac.u,X4,Yk,Ya,Yr];omega);have F:=p.opn;rw[X4,Ya,Yr,YO]at F;have e5:=gY F (N.length*6+5) _ (qD N _ 5 _ rfl);have P:=gY F (N.length*6+2) _ (qD N _ 2 _ rfl);have D:=(p.oI {q with lk:=q.lk+1} (by simp)).1;simp only at e5 P D;rw[ae.u]at P D;have⟨nb,no,ad⟩:=D.rd;obtain⟨rfl,au,Q⟩:=ad (by omega);have eS:=Q q.lk q.nd.aH[q.lk] (X9 K);unfold aK at eS;have X:((q.lk+1:Nat):Int)=(q.lk:Int)+1:=by omega
 rw[X]at e5;have:(q.lk:Int)<q.nd.aH.length:=by omega
 have t0:(0:Int)<=q.lk:=by omega
 have:=wrap_small t0 (by omega);have al:=(f.aP fL).trans (G.mono p.lW);clear O F D ad Q G X;generalize q.nd.aH[q.lk]=aA at*;go_in;go_wp2
 go_region
 all_goals go_wp2
 all_goals go_region
 all_goals go_wp2
 all_goals rw[<-U.u]
 all_goals clear U
 all_goals clear a5 a2 d4 ao
 all_goals go_region_law (first|(go_simp;go_at_call 142;refine κ CE λw1⟨r,A⟩=>?_;have J:=al.trans A;clear A))
 all_goals go_wp2
 all_goals go_ret
 all_goals exact⟨rfl,r,J⟩
end


