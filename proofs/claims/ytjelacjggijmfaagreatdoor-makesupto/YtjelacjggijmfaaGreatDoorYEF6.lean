/- . -/
import Derived.Test.YtjelacjggijmfaaGreatDoorYEF5
set_option linter.all false
set_option maxHeartbeats 8000000
set_option maxRecDepth 20000
namespace Go.Proofs.YtjelacjggijmfaaGreatDoor
open Pl Mk Cp Proofs.Tryz
open RowKit
section
variable {l b e:ay}{i o c n B:Nat}{p:fy}{j m f:az}{r:f'}{g:j4}{s:gb}{d:Wk}{a:Nat->Bool}{C:Bk}{k:Wd}{q A:Wn}
def eY.vm(h:eY l b i o p C j m r B g s c n):∃a cap v,j=.slice a g.length cap/\(0<g.length->a=some ⟨v,0,none⟩)/\∀d (w:d<g.length) (t:Nat) (u:az),(jd g[d])[t]?=some u->b.cell? ⟨v,d*7+t,none⟩=some u:=by
 by_cases x:0<g.length
 ·obtain⟨v,cap,e,-,-⟩:=dv h.aT x;refine⟨_,cap,v,e,λ_=>rfl,λd w t u y=>?_⟩;have z:=h.aT;rw[e]at z;have A:t<7:=(Yl.1 y).1;exact gY z (d*7+t) u (by rw[qA (f:=jd) (λ_=>rfl) g d t w A];exact y)
 have⟨a,cap,e⟩:=dR h.aT;exact⟨a,cap,0,e,λq=>absurd q x,λd w=>by omega⟩
def PH{k:Bk}(h:eY l b i o p k j m r B g s c n)(F:g.map (·.x)=d.aT.map (·.1))(T:g.length<=1073741824)(name:aj):
 Calls prog 55 #[π i,.string ⟨name.toArray⟩] b λe Q=>e=.returned (ir (dG d.aT name))/\Q =b:=by
 have J:=h.row.cell 1 (by simp);simp only[X6,X7]at J;obtain⟨a,L,R,rfl,M,H⟩:=h.vm;have w:Hid (dG d.aT name=g.findIdx? λy=>y.x.name==name):=(by
  unfold dG;have P:(d.aT.map (·.1)).findIdx? (λx=>x.name==name)=d.aT.findIdx? λx=>x.1.name==name:=by rw[adv];rfl
  rw[<-P,<-F,adv];rfl)
 go_in;go_wp2
 go_loopw [5] (λz wr=>∃f:Nat,z=ι f/\f<=g.length/\Hid (∀q (t:q<g.length),q<f->(g[q].x.name==name)=false)/\wr=b) (λz _=>g.length-aV z)
 case atStart=>exact⟨0,rfl,Yh _,λq t N=>(by omega),rfl⟩
 obtain⟨f,rfl,N,v,K⟩:=hrel;subst K;by_cases C:f<g.length
 ·obtain rfl:=M (by omega);have E:=(aC H).u f C 0 _ rfl;have:(f:Int)<g.length:=by omega
  unfold aK at E;rw[ZH]at E;cases D:g[f].x.name==name with
  |true=>
   have A:Hid (dG d.aT name=some f):=(by rw[w.u,YM];exact⟨C,D,λq t=>by rw[v.u q (by omega) t];decide⟩);generalize g[f].x.name=I at*;go_wp2
   go_ret;exact⟨by rw[A.u];rfl,rfl⟩
  |false=>
   have G:Hid (∀q (t:q<g.length),q<f+1->(g[q].x.name==name)=false):=(λq t S=>by
    by_cases e:q=f
    ·subst e;exact D
    exact v q t (by omega))
   generalize g[f].x.name=I at*;go_wp2
   first
    |exact⟨⟨f+1,by go_num,by omega,G,by trivial⟩,by simp only[aV];omega⟩
    |(go_roundw;exact⟨f+1,by go_num,by omega,G,by trivial⟩;simp only[aV];omega)
 have:¬(f:Int)<g.length:=by omega
 have A:Hid (dG d.aT name=none):=(by rw[w.u,Zg];intro x O;obtain⟨q,t,rfl⟩:=ZD O;exact v q t (by omega));go_wp2
 go_ret;exact⟨by rw[A.u];rfl,rfl⟩
structure DP(W W1:ay)(ef:ga)(t:Wk)(ls:List (fv))(S:fv)(ve:az)(bx sb n:Nat)(fin:Wd)(i:Nat)(fl:Nat->Bool)(X:Wd)(vf vc:az)(wr:ay):Prop where
 rw:RW wr (bx+1) bx ve vf vc X
 st:aF wr sb 4 ((List.range n).map λq=> .bool (fl q))
 bS:Below bx W1 wr
 tT:Fit S X.aW
 fU:X.aI.length<=jk (ls.take i)
 go:m_ ef t ((t.aY.zip ls).drop i) fl X=fin
def I_(h:aF l o 4 ((List.range n).map λq=> .bool (a q)))(b:i<n):l.cell? ⟨o,i,none⟩=some (.bool (a i)):=by have:=h.cell i (by simpa using b);rw[this,YT,G']
def T7{s:Bool}(h:aF l i 4 ((List.range n).map λq=> .bool (a q))):aF (l.ψ i o (.bool s)) i 4 ((List.range n).map λq=> .bool (if q=o then s else a q)):=by
 have b:=h.set o (.bool s);have e:((List.range n).map λq=>Value.bool (a q)).set o (.bool s)=(List.range n).map λq=> .bool (if q=o then s else a q):=by
  apply aco
  ·simp
  intro c b d;rw[aeX];simp only[YT,G'];by_cases e:o=c
  ·rw[Yd e,Yd e.symm]
  rw[Yb e,Yb (λq=>e q.symm)]
 rw[<-e];exact b
def S7(w:ay)(n:Nat):aF (w.alloc (.cells (madeCells #[.bool false] n) 4)) w.heap.size 4 ((List.range n).map λ_=> .bool false):=by
 have e:((List.range n).map λ_=>Value.bool false)=List.replicate n (.bool false):=by
  apply aco
  ·simp
  intro c b a;simp
 rw[e];exact (aF.oj w 4 (.bool false) n)
structure pq(W1:ay)(ve:az)(bx sb nb n:Nat)(fl:Nat->Bool)(X:Wd)(y:Wn)(vf vc:az)(wr:ay):Prop where
 rw:RW wr (bx+1) bx ve vf vc X
 st:aF wr sb 4 ((List.range n).map λq=> .bool (fl q))
 bS:Below bx W1 wr
 nd:aF wr nb 116 (jd y)
def pq.aD{vc:az}{nb:Nat}(h:pq l j i o nb n a k q m vc e)(c:μ e b):pq l j i o nb n a k q m vc b:=⟨h.rw.aD c,h.st.aD c,h.bS.trans (c.mono (lg h.rw.row.lt)),h.nd.aD c⟩
def pq.Xp{k:Nat}{s:Bool}{X:Wd}(h:pq l j o i c n a X A m f b)(z:o<=i):pq l j o i c n (λq=>if q=k then s else a q) X A m f (b.ψ i k (.bool s)):=by
 have g:∀q,q≠i->(b.ψ i k (.bool s)).heap[q]?=b.heap[q]?:=λq y=>Ys _ _ _ _ y;have w:=h.st;have r:∀{q e:Nat} {u:hZ} {t:Nat×Nat},b.heap[q]?=some (.cells u e t)->e≠4->q≠i:=λd x e=>by rw[e]at d;unfold aF at w;rw[w]at d;simp at d;exact x d.2.1.symm
 refine⟨⟨(g _ (r h.rw.row (by decide))).trans h.rw.row,bI h.rw.aW λq y=>?_,bI h.rw.aI λq y=>?_,h.rw.lt⟩,T7 h.st,h.bS.setCell (p:=η i k) z _,(g _ (r h.nd (by decide))).trans h.nd⟩
 ·have⟨u,t,v⟩:=dZ h.rw.aW q y;exact g q (r v (by decide))
 have⟨u,t,v⟩:=dZ h.rw.aI q y;exact g q (r v (by decide))
def D1(X:Wd)(W:ay)(e:Ending)(a:ay):Prop:=μ W a /\∃b c,e=.returned (.agg #[b,c,ι X.exit,ι X.aQ])/\fJ a W.heap.size b X.aI/\gp a W.heap.size c (eB X.aW)
def Ta{S:fv}{i:Int}(j:∀f∈p,f.aL∈S):Fit S (fK p i).aW:=by
 have:∀(b a:fy),(∀f∈b,f.aL∈S)->Fit S a->Fit S (b.foldl Pl.bA a):=λb=>by
  induction b with
  |nil=>intro a _ h;exact h
  |cons x k g=>intro a c h;exact g _ (λf e=>c f (Yp _ e)) (h.add (c x (Yq ..)))
 exact this p [] j ⟨by simp[nJ],λl d=>(by cases d)⟩
def VD{W:ay}(e:μ W l)(c:fJ l B j k.aI)(b:gp l i m (eB k.aW))(g:W.heap.size<B)(f:W.heap.size<i):D1 k W (.returned (.agg #[j,m,ι k.exit,ι k.aQ])) ((((l.ψ W.heap.size 0 j).ψ W.heap.size 1 m).ψ W.heap.size 2 (ι k.exit)).ψ W.heap.size 3 (ι k.aQ)):=by
 have d:∀q,q≠W.heap.size->((((l.ψ W.heap.size 0 j).ψ W.heap.size 1 m).ψ W.heap.size 2 (ι k.exit)).ψ W.heap.size 3 (ι k.aQ)).heap[q]?=l.heap[q]?:=λq a=>by rw[Ys _ (η W.heap.size 3) _ q a,Ys _ (η W.heap.size 2) _ q a,Ys _ (η W.heap.size 1) _ q a,Ys _ (η W.heap.size 0) _ q a]
 refine⟨(((e.setCell (p:=η W.heap.size 0) ax _).setCell (p:=η W.heap.size 1) ax _).setCell (p:=η W.heap.size 2) ax _).setCell (p:=η W.heap.size 3) ax _,j,m,rfl,?_,?_⟩
 ·exact kY (bI c λq a=>d q (by have:=(Yt c q a).1;omega)) (by omega)
 exact kY (bI b λq a=>d q (by have:=(Yt b q a).1;omega)) (by omega)
def VQ{W:Bk}{B:List (fv)}(hw:eY l b i o p W j m [j] g.length g d.aY 0 0)(bc:g.map (·.x)=d.aT.map (·.1))(b3:∀r (h:r<d.aY.length),(g.getD d.aY[r] iW).cs=B.getD r [])(bx:B.length=d.aY.length)(dl:jk B<=500)(ap:tM W p d)(br:∀r∈d.aY,∀n∈(cA d r).1.aH,∃I,dG d.aT n=some I)(N:fy)(t:ga)(a J:fY)(cap fb fo ce L be oe:Nat)(aQ:Int)(ha:0<N.length->a=some ⟨fb,fo,none⟩)(hr:eJ b fb fo N)(cM:fb<b.heap.size)(cK:N.length<=8388608)(c8:0<t.length->J=some ⟨be,oe,none⟩)(hE:kX b L be oe t)(hL:L<=b.heap.size)(cP:t.length<=8388608)(ci:∀e∈t,e.cE.length<=8388608)(S:fv)(hS:S.length<=8388608)(c4:∀f∈N,f.aL∈S)(bw:∀e∈t,∀f∈e.cE,f.aL∈S):
 Calls prog 18 #[π i,.slice a N.length cap,.slice J t.length ce,ι aQ] b λe W'=>D1 (m_ t d (d.aY.zip B) (λ_=>false) (fK N aQ)) b e W':=by
 unfold π ι;have bF:g.length=d.aT.length:=by have:=Yg List.length bc;simpa using this
 have dj:=ap.len;have df:d.aY.length<=1310000:=by rw[ap.ol];exact ap.len
 have b8:∀w,(Instr.makeSlice 82 (ι (g.length:Int)) (ι (g.length:Int))).run prog w=.ok (ξ w.heap.size g.length g.length) (w.alloc (.cells (madeCells #[.bool false] g.length) 4)):=adG (P:=prog) 82 4 (.bool false) 1 underlying82 Tryz.I4 rfl .i64 .i64 g.length (by omega) (by omega);have a8:μ b (b.alloc (.cells #[ς,ς,ι 0,ι 0] 32)):=ak b _;have CN:=M2 N a J cap fb fo t.length ce aQ (b.alloc (.cells #[ς,ς,ι 0,ι 0] 32)) ha (hr.aP a8 cM) (by rw[X_];omega) cK;have cF:=aF.bq b 32 [ς,ς,ι 0,ι 0];obtain⟨aN,cN,gN,a1,cG,cr⟩:=hw.vm;have U:=hw.row.cell 1 (by simp);simp only[X6,X7]at U;rw[a1]at U;have cQ:=hw.row.lt;have bK:=aC bF;have aM:=aC bx;have c_:g.length<=1310000:=by omega
 clear bF bx;clear hr ha cr cG;generalize bs:m_ t d (d.aY.zip B) (λ_=>false) (fK N aQ)=fin;have b6:=aC bs;clear bs;go_enter func18,ntmps18;go_upto_region 3 with(first|(go_at_call 43;refine κ CN λV⟨vf,vc,aa,bf⟩=>?_;have cu :=((a8.tr bf).cell (p:=η i 1) cQ).trans U;clear U CN))
 rw[X_]at aa bf;have ai:μ V (V.alloc (.cells (madeCells #[.bool false] g.length) 4)):=ak V _;have bZ:=bf.size;rw[X_]at bZ;have cD:Hid (DP b (b.alloc (.cells #[ς,ς,ι 0,ι 0] 32)) t d B S (.slice J t.length ce) (b.heap.size+1) V.heap.size g.length fin 0 (λ_=>false) (fK N aQ) vf vc (V.alloc (.cells (madeCells #[.bool false] g.length) 4))):=aC ⟨aa.aD ai,S7 V g.length,bf.trans (ai.mono (by omega)),Ta c4,Yh _,b6.u⟩;generalize V.alloc (.cells (madeCells #[.bool false] g.length) 4)=w3 at*;clear ai cu b8 b6;generalize cd:V.heap.size=sb at*;generalize cq:b.alloc (.cells #[ς,ς,ι 0,ι 0] 32)=W1 at*;clear cq cd;have bi:Hid (∀wr,Below (b.heap.size+1) W1 wr->eY l wr i o p W j m [j] g.length g d.aY 0 0/\kX wr L be oe t/\aF wr b.heap.size 32 [ς,ς,ι 0,ι 0]/\μ b wr):=aC λwr hb=>by have C:μ b wr:=a8.trans (hb.mono (by omega));exact⟨hw.aD C,hE.aP (C.mono hL),cF.aP hb (by omega),C⟩
 go_wp2_with fail
 go_loopw [11] (λiv wr=>∃(r:Nat) (D:Nat->Bool) (X:Wd) (vf vc:az),iv=.int .i64 r/\r<=d.aY.length/\Hid (DP b W1 t d B S (.slice J t.length ce) (b.heap.size+1) sb g.length fin r D X vf vc wr)) (λiv _=>d.aY.length-aV iv)
 case atStart=>exact⟨0,_,_,_,_,rfl,Yh _,cD⟩
 obtain⟨r,D,X,a2,bh,rfl,hi,H⟩:=hrel;obtain⟨F,ad,Y,ab⟩:=bi.u wr H.u.bS;have k2:=F.row.cell 2 (by simp);have U:=F.row.cell 1 (by simp);simp only[X6,X7]at U k2;rw[a1]at U;obtain⟨aO,cO,bO,oO,cV,a0,bl⟩:=F.aY;rw[cV]at k2;obtain⟨x0,-,-,-,x4⟩:=H.u.rw.cells;by_cases R:r<d.aY.length/\X.exit=0
 ·obtain⟨R,cx⟩:=R;have ti:(r:Int)<d.aY.length:=by omega
  have aw:=ap.lt _ (Ym R);have ah:d.aY[r]<g.length:=by have:=bK.u;omega
  obtain⟨a',c',g',e',b_,bE⟩:=F.vm;rw[a1]at e';cases e';have cb:=b_ (by omega);have o0:=bl r R;have c6:=(a0 (by omega)).1;have ax:=b3 r R;have bI:g.getD d.aY[r] iW=g[d.aY[r]]:=by rw[Yf,X9 ah];rfl
  rw[bI]at ax;have aB:g[d.aY[r]].x=(cA d d.aY[r]).1:=by have C:=Yg (λcg=>cg[d.aY[r]]?) bc;simp only[Za,X9 ah,X9 aw,T',H9]at C;unfold cA;rw[Yf,X9 aw,C];rfl
  have aR:=H.u.go;have bX:r<(d.aY.zip B).length:=by rw[afy,aM.u];omega
  have bt:r<B.length:=by rw[aM.u];exact R
  rw[Yu bX,m_,Yd cx,List.getElem_zip,<-aB]at aR;have bW:B.getD r []=B[r]:=by rw[Yf,X9 bt];rfl
  rw[bW]at ax;rw[<-ax]at aR;have a3:=br d.aY[r] (Ym R);rw[<-aB]at a3;have c2:jk (B.take (r+1))=jk (B.take r)+g[d.aY[r]].cs.length:=by rw[Yn bt,Bb,ax]
  have bY:=ap.sz _ (Ym aw);have bD:=(F.aH g[d.aY[r]] (Ym ah));have bM:=F.aI d.aY[r] ah (by omega);have Z:∀A u,(jd g[d.aY[r]])[A]?=some u->wr.χ g' (d.aY[r]*7+A)=some u:=bE _ ah;have db:jk (B.take (r+1))<=jk B:=by
   have C:jk B=jk (B.take (r+1))+jk (B.drop (r+1)):=by
    conv=>lhs;rw[<-C0 (r+1) B]
    unfold jk;rw[Yy,acB]
   omega
  have cW:Hid (m_ t d ((d.aY.zip B).drop (r+1)) (λq=>if q=d.aY[r] then na d D X.aW g[d.aY[r]].x else D q) (if na d D X.aW g[d.aY[r]].x=true then gv t g[d.aY[r]].cs X else X)=fin):=aC aR;have cL:=aC bc;have bg:=H.u.tT;have dp:=H.u.fU;have dk:=H.u.rw.row.lt;obtain⟨an,cn,aX⟩:=bD.1.jm;obtain⟨ac,cc,am⟩:=bM.1.jm;have cR:=(sU g[d.aY[r]].x.aH).1;have de:g[d.aY[r]].x.aH.length<=1304704:=by have:=bY.sum;rw[<-show(cA d d.aY[r]).1=(d.aT[d.aY[r]]).1 by unfold cA;rw[Yf,X9 aw];rfl,<-aB]at this;omega
  clear aR ax bI bW bX bY bD bM cR aB aw b3 br bE b_ a0 bl;generalize bG:g[d.aY[r]]=y at*;generalize cT:d.aY[r]=kk at*;clear cT;have n0:=Z 0 _ rfl;have n1:=Z 1 _ rfl;have n2:=Z 2 _ rfl;have n3:=Z 3 _ rfl;have n4:=Z 4 _ rfl;have n5:=Z 5 _ rfl;have n6:=Z 6 _ rfl;rw[ZH]at n0;rw[aX]at n1;rw[am]at n6;unfold aK at n0 n3;unfold ir at n2;subst cb c6;have dg:(kk:Int)<g.length:=by omega
  have aU:μ wr (wr.alloc (.cells #[σ y.x.name,.slice an y.x.aH.length cn,ι (iP y.x.gW),σ y.x.stem,.bool y.x.ph,.bool y.ov,.slice ac y.cs.length cc] 116)):=ak wr _;have bo:=aF.bq wr 116 [σ y.x.name,.slice an y.x.aH.length cn,ι (iP y.x.gW),σ y.x.stem,.bool y.x.ph,.bool y.ov,.slice ac y.cs.length cc];have a6:Hid (pq W1 (.slice J t.length ce) (b.heap.size+1) sb wr.heap.size g.length D X y a2 bh (wr.alloc (.cells #[σ y.x.name,.slice an y.x.aH.length cn,ι (iP y.x.gW),σ y.x.stem,.bool y.x.ph,.bool y.ov,.slice ac y.cs.length cc] 116))):=aC ⟨H.u.rw.aD aU,H.u.st.aD aU,H.u.bS.trans (aU.mono (by omega)),by unfold jd;rw[aX,am];exact bo⟩;have bp:=bG;clear Z bo H bG aU F ad;go_upto_region 8 with fail
  generalize wr.alloc (.cells #[σ y.x.name,.slice an y.x.aH.length cn,ι (iP y.x.gW),σ y.x.stem,.bool y.x.ph,.bool y.ov,.slice ac y.cs.length cc] 116)=wA at*;generalize wr.heap.size=nb at*;clear n0 n1 n2 n3 n4 n5 n6 U k2 o0 x0 x4;have hM:=a6.u;obtain⟨x0,-,-,-,x4⟩:=hM.rw.cells;obtain⟨af,cf,gf,cl,co,ct,ck⟩:=hM.rw.aW.rd;have O:=hM.nd.cell 0 (by simp[jd]);have b4:=hM.nd.cell 4 (by simp[jd]);simp only[jd,X6,X7]at O b4;unfold aK at O;rw[cl]at x0;have cI:=bg.len;have CF:Hid (∀w,μ wA w->θ 45 #[.slice af X.aW.length cf,σ y.x.name] w (ι (jW X.aW y.x.name))):=aC λw hb=>qg X.aW y.x.name af cf gf 0 w co (λr hi=>ct.aP hb (ck (by omega)).2.1 r hi) (by omega);clear hM;go_cut [14] from 58 to 69 (λsv wx=>sv=.bool (y.x.ph||(Pl.look X.aW y.x.name).isNone)/\Hid (μ wA wx))
  case first=>
   obtain⟨pp,a4⟩:∃pp,pp=y.x.ph:=⟨_,rfl⟩;rw[<-a4]at b4;have bv:=aC a4;clear a4;cases pp with
   |true=>
    go_quiet (fail)
    go_wp2_with fail
    go_meet
    exact⟨by rw[<-bv.u];rfl,aC (Below.drewN (X5 _ _) _)⟩
   |false=>
    have cC:(jW X.aW y.x.name<0/\(Pl.look X.aW y.x.name).isNone=true)\/(¬jW X.aW y.x.name<0/\(Pl.look X.aW y.x.name).isNone=false):=by
     rcases rA (fs:=X.aW) (p:=y.x.name) with⟨C,T⟩|⟨A,hj,C,T⟩
     ·exact .inl ⟨by rw[C];decide,by rw[T];rfl⟩
     exact .inr ⟨by rw[C];omega,by rw[T];rfl⟩
    generalize jW X.aW y.x.name=ix at*;rcases cC with⟨C,T⟩|⟨C,T⟩;all_goals
     go_quiet (first|(go_at_call 45;exact ZV ((CF.u _ (Below.drewN (X5 _ _) _)).mono (λ_ _ h=>⟨h.1,h.2.symm⟩))))
    all_goals go_wp2_with fail
    all_goals go_meet
    all_goals exact⟨by rw[<-bv.u,T];rfl,aC (Below.drewN (X5 _ _) _)⟩
  obtain⟨rfl,b2⟩:=hcut;have bN:=a6.u.aD b2.u;clear a6 b2 CF x0 x4 O b4 cI;have cy:Hid (na d D X.aW y.x=((y.x.ph||(Pl.look X.aW y.x.name).isNone)||y.x.aH.any λn=>D (pM d n)||h_ X.aW y.x.name n)):=aC (by unfold na;rw[adP]);generalize (y.x.ph||(Pl.look X.aW y.x.name).isNone)=s0 at*;obtain⟨wC,rfl⟩:∃wC,wC=wc:=⟨wc,rfl⟩;go_wp2_with fail
  go_loopw [14,15] (λsv jv wq=>∃(A:Nat) (s:Bool),sv=.bool s/\jv=.int .i64 A/\A<=y.x.aH.length/\Hid (s=(s0||(y.x.aH.take A).any λn=>D (pM d n)||h_ X.aW y.x.name n))/\Hid (pq W1 (.slice J t.length ce) (b.heap.size+1) sb nb g.length D X y a2 bh wq)) (λ_ jv _=>y.x.aH.length-aV jv)
  case atStart=>exact⟨0,s0,rfl,rfl,Yh _,aC (by simp),bN⟩
  obtain⟨A,s,rfl,rfl,hj,HS,M⟩:=hrel;obtain⟨F,ad,Y,ab⟩:=bi.u wr M.u.bS;have b1:=M.u.nd.cell 1 (by simp[jd]);have O:=M.u.nd.cell 0 (by simp[jd]);simp only[jd,X6,X7]at O b1;unfold aK at O;rw[aX]at b1;by_cases a7:A<y.x.aH.length
  ·have tj:(A:Int)<y.x.aH.length:=by omega
   have c5:y∈g:=by rw[<-bp];exact Ym _
   obtain⟨a9,k9,b9,o9,au,ar,aq⟩:=(F.aH y c5).1;rw[aX]at au;cases au;obtain⟨rfl,bL⟩:=ar (by omega);have e9:=aq A a7;unfold aK at e9;obtain⟨I,hp⟩:=a3 y.x.aH[A] (Ym a7);have bP:pM d y.x.aH[A]=I:=by unfold pM;rw[hp];rfl
   have ch:I<g.length:=by obtain⟨q,-⟩:=wQ hp;have:=bK.u;omega
   have bd:=MH y.x.name y.x.aH[A] _ _ _ _ _ X wr.drew (M.u.rw.aD (X5 _ wr).drew) (by have:=bg.len;omega);have CP:Hid (∀w,μ wr w->δ 55 #[π i,σ y.x.aH[A]] w (ι (I:Int))):=aC λw hb=>by have:=PH (F.aD hb) cL.u (by omega) y.x.aH[A];rw[hp]at this;exact this
   have cX:Hid ((y.x.aH.take (A+1)).any (λn=>D (pM d n)||h_ X.aW y.x.name n)=((y.x.aH.take A).any (λn=>D (pM d n)||h_ X.aW y.x.name n)||(D I||h_ X.aW y.x.name y.x.aH[A]))):=aC (by rw[yy a7,bP]);unfold aK at bd;have bH:=M.u.nd.lt;have tp:(I:Int)<g.length:=by omega
   clear ar aq hp bP F ad;generalize h_ X.aW y.x.name y.x.aH[A]=nw at*;generalize y.x.aH[A]=z at*;go_upto_region 12 with fail
   go_region_held3 (λw'=>w'.χ nb 0=some (σ y.x.name)/\w'.χ nb 1=some (.slice (some (η b9 o9)) y.x.aH.length cn)/\w'.χ b9 (o9+A)=some (σ z)) (first|with_reducible exact⟨O,b1,e9⟩|with_reducible exact⟨bU,c1,c3⟩|go_keep) (first|(go_at_call 48;refine κ bd λw5 ag=>?_;have ao :=(X5 _ wr).drew.trans ag;have bU :=(ao.cell (p:=η nb 0) bH).trans O;have c1 :=(ao.cell (p:=η nb 1) bH).trans b1;have c3 :=(ao.cell (p:=η b9 (o9+A)) bL).trans e9;have bJ:=M.u.aD ao;have cp:=CP.u _ ao;have p5:=I_ bJ.st ch;clear ag ao))
   clear O b1 e9 bU bd CP;have HE:Hid (∀q:Bool,q=(s||(nw||D I))->∃(j':Nat) (s':Bool),Value.bool q=.bool s' /\ι ((A:Int)+1)= ι (j':Int)/\j' <=y.x.aH.length/\Hid (s' =(s0||(y.x.aH.take j').any λn=>D (pM d n)||h_ X.aW y.x.name n))/\Hid (pq W1 (.slice J t.length ce) (b.heap.size+1) sb nb g.length D X y a2 bh w5)):=aC λq hq=>⟨A+1,q,rfl,by go_num,by omega,aC (by rw[cX.u,<-adP,<-HS.u,hq,Bool.or_comm nw]),bJ⟩;cases s with
   |true=>
    go_wp2_with fail
    first
     |exact⟨HE.u true (by simp),by simp only[aV];omega⟩
     |(go_roundw;exact HE.u true (by simp);simp only[aV];omega)
   |false=>
    cases nw with
    |true=>
     go_wp2_with fail
     first
      |exact⟨HE.u true (by simp),by simp only[aV];omega⟩
      |(go_roundw;exact HE.u true (by simp);simp only[aV];omega)
    |false=>
     go_wp2_with (go_at_call 55;refine κ cp λ_ b'=>?_;subst b')
     first
      |exact⟨HE.u _ (by simp),by simp only[aV];omega⟩
      |(go_roundw;exact HE.u _ (by simp);simp only[aV];omega)
  have tj:¬(A:Int)<y.x.aH.length:=by omega
  have bn:s=na d D X.aW y.x:=by rw[cy.u,HS.u,YF (by omega)]
  have c7:=aC bn;clear bn HS F ad O;have p0:=I_ M.u.st ah;have f0:=M.u.st.frozen kk;have cJ:=M.u.Xp (k:=kk) (s:=s) bZ;have bR:=aC cW.u;rw[<-c7.u]at bR;go_wp2_with fail
  clear p0 f0 b1 M bN;have cj:=bg;unfold World.ψ at*;generalize wr.setCell (η sb kk) (.bool s)=wD at*;go_loopw [17] (λjv wq=>∃(A:Nat) (G:Wd) (aE aG:az),jv=.int .i64 A/\A<=y.cs.length/\Hid (pq W1 (.slice J t.length ce) (b.heap.size+1) sb nb g.length (λq=>if q=kk then s else D q) G y aE aG wq)/\Hid (Fit S G.aW)/\G.aI.length<=X.aI.length+A/\Hid ((if s=true then gv t y.cs X else X)=(if s=true then gv t (y.cs.drop A) G else G))) (λjv _=>y.cs.length-aV jv)
  case atStart=>exact⟨0,X,_,_,rfl,Yh _,cJ,cj,by omega,aC rfl⟩
  obtain⟨E,G,aE,aG,rfl,da,K,bj,dh,bV⟩:=hrel;have m6:=K.u.nd.cell 6 (by simp[jd]);simp only[jd,X6,X7]at m6;rw[am]at m6;obtain⟨-,-,-,-,x4⟩:=K.u.rw.cells;by_cases hc:E<y.cs.length/\s=true/\G.exit=0
  ·obtain⟨bC,rfl,bQ⟩:=hc;have dm:(E:Int)<y.cs.length:=by omega
   rw[bQ]at x4;obtain⟨F,ad,Y,ab⟩:=bi.u wr K.u.bS;have iX:=(F.aI kk ah (by omega)).1;rw[bp]at iX;obtain⟨a9,k9,b9,o9,au,ar,aq⟩:=iX;rw[am]at au;cases au;obtain⟨rfl,bL⟩:=ar (by omega);have e9:=aq E bC;unfold aK at e9;have bm:=bV.u;rw[Yd rfl,Yd rfl,Yu bC,gv,Yd bQ]at bm;have CG:=aC (NQ y.cs[E] S t L (b.heap.size+1+1) (b.heap.size+1) be oe ce J aE aG G wr K.u.rw c8 ad (by omega) bj.u hS bw (by have:=K.u.rw.row.lt;omega) cP (by omega) ci);unfold aK at CG;have aA:=aC bm;have b7:=Fit.W8 (ef:=t) (c:=y.cs[E]) bj.u bw;have cH:=Ri t G y.cs[E];have bA:(eI t G y.cs[E]).aI.length<=X.aI.length+(E+1):=by omega
   clear ar aq F ad bm cH;generalize eI t G y.cs[E]=X3 at*;generalize y.cs[E]=cz at*;go_wp2_with (go_at_call 49;refine CG.u.mono ?_;rintro e w7⟨⟨ev,rfl⟩,a_,aZ,bT,ai,bk⟩;have bB:Hid (pq W1 (.slice J t.length ce) (b.heap.size+1) sb nb g.length (λq=>if q=kk then true else D q) X3 y a_ aZ w7):=aC ⟨bT,K.u.st.kept bk (by decide) (by decide) (by decide),K.u.bS.trans ai,K.u.nd.kept bk (by decide) (by decide) (by decide)⟩;clear bT ai bk)
   first
    |exact⟨⟨E+1,X3,a_,aZ,by go_num,by omega,bB,b7,bA,aC (by first|exact aA.u|(rw [Yd rfl,Yd rfl];exact aA.u))⟩,by simp only[aV];omega⟩
    |(go_roundw;exact⟨E+1,X3,a_,aZ,by go_num,by omega,bB,b7,bA,aC (by first|exact aA.u|(rw [Yd rfl,Yd rfl];exact aA.u))⟩;simp only[aV];omega)
  have bz:(if s=true then gv t y.cs X else X)=G:=by
   rw[bV.u];cases s with
   |false=>rfl
   |true=>
    rw[Yd rfl];by_cases C:E<y.cs.length
    ·exact JI t G λe=>hc ⟨C,rfl,e⟩
    rw[Zz (by omega)];rfl
  have al:Hid (DP b W1 t d B S (.slice J t.length ce) (b.heap.size+1) sb g.length fin (r+1) (λq=>if q=kk then s else D q) G aE aG wr):=aC ⟨K.u.rw,K.u.st,K.u.bS,bj.u,by rw[c2];omega,by rw[<-bz];exact bR.u⟩;clear bz;have bb:¬(E:Int)<y.cs.length\/((E:Int)<y.cs.length/\s=false)\/((E:Int)<y.cs.length/\s=true/\(G.exit==0)=false):=by
   by_cases C:E<y.cs.length
   ·cases s with|false=>exact .inr (.inl ⟨by omega,rfl⟩)|true=>exact .inr (.inr ⟨by omega,rfl,by rw[Yi];exact λe=>hc ⟨C,rfl,e⟩⟩)
   exact .inl (by omega)
  clear hc;rcases bb with t1|⟨t1,rfl⟩|⟨t1,rfl,t2⟩
  ·go_wp2_with fail
   first
    |exact⟨⟨r+1,_,_,_,_,by go_num,by omega,al⟩,by simp only[aV];omega⟩
    |(go_roundw;exact⟨r+1,_,_,_,_,by go_num,by omega,al⟩;simp only[aV];omega)
  ·go_wp2_with fail
   first
    |exact⟨⟨r+1,_,_,_,_,by go_num,by omega,al⟩,by simp only[aV];omega⟩
    |(go_roundw;exact⟨r+1,_,_,_,_,by go_num,by omega,al⟩;simp only[aV];omega)
  go_wp2_with fail
  first
   |exact⟨⟨r+1,_,_,_,_,by go_num,by omega,al⟩,by simp only[aV];omega⟩
   |(go_roundw;exact⟨r+1,_,_,_,_,by go_num,by omega,al⟩;simp only[aV];omega)
 have cZ:fin=X:=by
  have C:=H.u.go;by_cases T:r<d.aY.length
  ·have h3:r<(d.aY.zip B).length:=by rw[afy,aM.u];omega
   rw[Yu h3,m_,Yb (λe=>R ⟨T,e⟩)]at C;exact C.symm
  rw[Zz (by rw[afy,aM.u];omega)]at C;exact C.symm
 subst cZ;obtain⟨ac,cc,am⟩:=H.u.rw.aI.shape;have aa:=H.u.rw;rw[am]at aa;have CT:=N6 _ _ _ _ ac fin.aI.length cc fin wr aa (by have:=H.u.tT.len;omega);have cw:=aa.aI;have c9:b.heap.size+1<wr.heap.size:=aa.row.lt;clear F ad a0 bl U;have bb:¬(r:Int)<d.aY.length\/((r:Int)<d.aY.length/\(fin.exit==0)=false):=by
  by_cases T:r<d.aY.length
  ·exact .inr ⟨by omega,by rw[Yi];exact λe=>R ⟨T,e⟩⟩
  exact .inl (by omega)
 clear R;rcases bb with ti|⟨ti,te⟩;all_goals
  go_wp2_with (go_at_call 50;refine CT.mono ?_;rintro e w5⟨⟨vr,rfl,ba⟩,ag⟩;obtain⟨av,cv,gv,ca,-⟩:=ba.rd;subst ca;have Q:=Y.aD ag;have cU:=VD (W:=b) (ab.trans (ag.mono (by omega))) (fJ.aD cw ag) ba (by omega) (by omega);have r0:=Q.cell 0 (by simp);have r1:=Q.cell 1 (by simp);have r2:=Q.cell 2 (by simp);have r3:=Q.cell 3 (by simp);have f0:=Q.frozen 0;have f1:=Q.frozen 1;have f2:=Q.frozen 2;have f3:=Q.frozen 3;simp only[X6,X7]at r0 r1 r2 r3;clear ba ag)
  have hR:=(((Q.set 0 (.slice ac fin.aI.length cc)).set 1 (.slice av (eB fin.aW).length cv)).set 2 (ι fin.exit)).set 3 (ι fin.aQ);have o0:=hR.cell 0 (by simp);have o1:=hR.cell 1 (by simp);have o2:=hR.cell 2 (by simp);have o3:=hR.cell 3 (by simp);simp only[Zd,Y0,X6,X7]at o0 o1 o2 o3;refine Yw (v:=.agg #[.slice ac fin.aI.length cc,.slice av (eB fin.aW).length cv,ι fin.exit,ι fin.aQ]) ?_ rfl cU;simp[results,results18,go_sem,o0,o1,o2,o3]
end
variable {f w s:ay}{c:Wk}{i:List (fv)}{m V:fy}{d x:aj}{b g k n p ce oe aa o:Nat}{Y:ga}{S:fv}{ae a l j r q:fY}{t:Wd}{u:Ending}{v:Bk}
def zH(X:Wd)(W:ay)(c:fY)(d:Nat)(e:fY)(b:Nat):Prop:=∃B,fJ W B (.slice c X.aI.length d) X.aI/\gp W B (.slice e (eB X.aW).length b) (eB X.aW)
def zH.XL(h:D1 t w u f):∃c g d b,u=.returned (.agg #[.slice c t.aI.length g,.slice d (eB t.aW).length b,ι t.exit,ι t.aQ])/\zH t f c g d b/\μ w f:=by have⟨k,n,m,l,j,i⟩:=h;obtain⟨c,g,rfl⟩:=j.shape;obtain⟨d,b,p,rfl,-⟩:=i.rd;exact⟨c,g,d,b,l,⟨_,j,i⟩,k⟩
def tB(V:fy)(b:Bk)(d:Wk)(i:List (fv))(W:ay)(k:Nat):Prop:=∃j g f l c,eY j W k g V b f l [f] c.length c d.aY 0 0/\c.map (·.x)=d.aT.map (·.1)/\∀e (h:e<d.aY.length),(c.getD d.aY[e] iW).cs=i.getD e []
def tB.aD{wb:Nat}(h:tB V v c i f wb)(l:μ f w):tB V v c i w wb:=by have⟨n,k,Z,e,d,j,g,m⟩:=h;exact⟨n,k,Z,e,d,j.aD l,g,m⟩
def CR.fst{c:TypeId}(h:CR f b c (V++m)):eJ f b 0 V:=λd N=>by have:=h.rd d (by rw[X4];omega);rwa [ZU N]at this
def Q0(W:ay)(b:Nat)(f:eJ W b 0 eQ)(i:b<W.heap.size):Calls prog 12 #[ξ b 3 3] W λe c=>e=.returned (ξ W.heap.size 3 11)/\eJ c W.heap.size 0 eQ/\W.heap.size<c.heap.size/\μ W c:=(AO eQ (some (η b 0)) 3 b 0 W (λ_=>rfl) f i (by decide)).mono λ_ _ ⟨g,d,h⟩=>⟨g,CR.fst d,aF.lt d,h⟩
def PJ(j:lA V<=1048576)(h:rK (eA V d) V x 0 b c i):tM (eA V d) V c:=by
 obtain⟨k,l,-⟩:=IW (Gk j) d;obtain⟨g,e,-⟩|⟨-,⟨-,e,-⟩|⟨-,-,e,-⟩|⟨-,g,f,q,e,rfl,-⟩⟩:=h
 ·exact absurd e.symm g
 ·cases e
 ·cases e
 exact look_size l (Ye (AT V) j) g e
def D7(V:fy)(a:fY)(o:Nat)(w:ay):Prop:=∀W,μ w W->∃b,(0<V.length->a=some ⟨b,o,none⟩)/\eJ W b o V/\b <W.heap.size
def LC(Y:ga)(d:fY)(a:Nat)(w:ay):Prop:=∀W,μ w W->∃c b,(0<Y.length->d=some ⟨b,a,none⟩)/\kX W c b a Y/\c <=W.heap.size
section
variable {Z:Int}
def UL(M:LC Y ae oe w)(E:Y.length<=8388608)(A:∀e∈Y,e.cE.length<=8388608)(b:S.length<=8388608)(r:∀e∈Y,∀f∈e.cE,f.aL∈S)(I:D7 V a o w)(J:V.length<=8388608)(G:∀f∈V,f.aL∈S)(g:oB v c i)(O:tM v m c)(D:m_ Y c (c.aY.zip i) (λ_=>false) (fK V Z)=t)(W:ay)(k:Nat)(j:μ w W)(N:tB m v c i W k):
 Calls prog 18 #[π k,.slice a V.length aa,.slice ae Y.length ce,ι Z] W λe d=>∃p l q n,e=.returned (.agg #[.slice p t.aI.length l,.slice q (eB t.aW).length n,ι t.exit,ι t.aQ])/\zH t d p l q n/\μ W d:=by have⟨B,H,y,s⟩:=I W j;have⟨C,L,u,X,z⟩:=M W j;have⟨T,Q,P,R,U,F,x,K⟩:=N;subst D;exact(VQ F x K g.ll g.sc O g.WT V Y a ae aa B o ce C L oe Z H y s J u X z E A S b G r).mono λe d h=>zH.XL h
end
def Rb(b:ie mN=some d):d.length<=8388608:=by
 have h:((ie mN).getD []).length<=8388608:=by decide+kernel
 rw[b]at h;exact h
def uA:w.ownsRow b g k (ς) 0 []:=⟨by simp,.inl ⟨rfl,rfl⟩⟩
def gM.rd(h:gM b Y (Y.length+8) f):kX f f.heap.size b 0 Y:=by refine⟨h.lt,λg k=>?_⟩;have⟨c,W,e,i,N⟩:=h.at g k (by omega);refine⟨by simpa using e,by simpa using N,_,_,c,0,by simpa using i,λ_=>rfl,λj d=>?_,aF.lt W⟩;have:=W.cells j (by simp;omega);rw[ZU d]at this;simpa using this
def I':(oH [] mN [] (fK eQ 10)).aQ=12/\(eB (oH [] mN [] (fK eQ 10)).aW).length=3:=⟨by decide+kernel,by decide+kernel⟩
def SW(h:ie mN=some d):∃b c,Pl.load d=some (b,c)/\k_ d/\(gm c b [] (fK eQ 10)).aI=K7/\(gm c b [] (fK eQ 10)).aQ=12/\(eB (gm c b [] (fK eQ 10)).aW).length=3:=by have⟨b,c,g,f,e⟩:=G8 h GQ.1 GQ.2;exact⟨b,c,g,f,by rw[e [] _ rfl,R8],by rw[e [] _ rfl];exact I'.1,by rw[e [] _ rfl];exact I'.2⟩
def Tg(p:ie mN=some d)(D:d.length<=8388608)(W:ay)(b:Nat)(L:dq W)(O:eJ W b 0 eQ)(z:b<W.heap.size):Calls prog 20 #[ξ b 3 11,.string ⟨#[82]⟩,ε,ς,ι 10] W λe k=>∃n j m l K,e=.returned (.tuple #[.agg #[ξ j 2 n,.slice m 3 l,ι K,ι 12],ι 0,ι 0])/\k.cell? ⟨j,0,none⟩=some (.string ⟨#[99,99,32,45,111,32,97,46,111,32,97,46,99]⟩)/\j<k.heap.size/\μ W k:=by
 have⟨Z,c,J,G,A,I,B⟩:=SW p;refine(Im (DB (fs0:=eQ) (by decide) [82] []) (λx h V=>?_) [] (eQ.map (·.aL)) (some (η b 0)) none 11 b 0 0 W.heap.size 0 0 10 W (λ_=>rfl) O z L ⟨λh=>absurd h (by decide),⟨by omega,λa F=>absurd F (by simp)⟩,λe h=>(by cases h),by decide,λe h=>(by cases h),by decide⟩ ax (λf N=>YC.2 ⟨f,N,rfl⟩) (by decide)).mono ?_
 ·rw[Ir]at h;obtain⟨C,i,rfl⟩:=If h;rw[p]at i;cases i;exact D
 rintro e k⟨M,x,u,g⟩;rw[Ir]at u;obtain⟨C,i,rfl⟩:=If u;rw[p]at i;cases i;obtain⟨g,-⟩|⟨-,v,Q,rfl,g⟩:=g
 ·exact absurd rfl g
 obtain⟨g,-⟩|⟨P,U,o,T,r,-,y,H,E⟩:=g
 ·exact absurd G g
 rw[J]at r;cases r;cases y;obtain⟨w,n,j,rfl,t,s,q⟩:=fJ.rd H;obtain⟨m,l,Y,rfl,X,S,R⟩:=AX E;rw[A]at t s q⊢;rw[I,B];obtain rfl:=t (by decide);exact⟨n,j,m,l,_,rfl,q 0 (by decide),s (by decide),M⟩
structure tA where
 er:Nat
 ln:Nat
 ex:Int
 ck:Int
 cs:fv
 fl:fy
def KK(b:aj×Nat×Nat)(V:fy)(Y:ga)(Z:Int)(O:tA):Prop:=(b.2.1≠0/\O=⟨b.2.1,b.2.2,0,0,[],[]⟩)\/(b.2.1=0/\∃d c,Pl.load b.1=some (d,c)/\k_ b.1/\O=⟨0,0,(gm c d Y (fK V Z)).exit,(gm c d Y (fK V Z)).aQ,(gm c d Y (fK V Z)).aI,eB (gm c d Y (fK V Z)).aW⟩)
def Dv(O:tA)(B:Nat)(e:Ending)(W:ay):Prop:=∃c f d b,e=.returned (.tuple #[.agg #[.slice c O.cs.length f,.slice d O.fl.length b,ι O.ex,ι O.ck],ι (O.er:Int),ι (O.ln:Int)])/\fJ W B (.slice c O.cs.length f) O.cs/\pZ W B (.slice d O.fl.length b) O.fl
def Df.out{a:Int}{i:aj×Nat×Nat}{O:tA}(h:Df V d x Y a w u f)(r:ji (V.foldl Pl.bA []) d x i)(j:KK i V Y a O):Dv O w.heap.size u f/\μ w f:=by
 have⟨q,A,e,b⟩:=h;obtain rfl:=e.mx r;refine⟨?_,q⟩;obtain⟨b,rfl⟩|⟨b,v,D,rfl,g⟩:=b
 ·obtain⟨-,rfl⟩|⟨h,-⟩:=j
  ·exact⟨none,0,none,0,rfl,uA,uA⟩
  exact absurd h b
 obtain⟨h,-⟩|⟨-,F,c,n,W,rfl⟩:=j
 ·exact absurd b h
 obtain⟨g,-⟩|⟨B,C,G,E,k,-,p,m,l⟩:=g
 ·exact absurd W g
 rw[n]at k;cases k;cases p;obtain⟨y,s,rfl⟩:=fp m;obtain⟨z,t,rfl⟩:=fp l;exact⟨y,s,z,t,rfl,m,l⟩
def DW(O:tA)(W:ay)(f:Nat)(d:fY)(c:Nat)(e:fY)(b:Nat):Prop:=aF W f 32 [.slice d O.cs.length c,.slice e O.fl.length b,ι O.ex,ι O.ck]/\∃B,fJ W B (.slice d O.cs.length c) O.cs/\gp W B (.slice e O.fl.length b) O.fl
def DW.aD{O:tA}(h:DW O f b l g j k)(c:μ f w):DW O w b l g j k:=by have⟨Z,B,e,d⟩:=h;exact⟨Z.aD c,B,e.aD c,d.aD c⟩
def DW.same{O:tA}{W:ay}(h:DW O W b r n q p)(P:O.cs.length<=8388608)(E:O.fl.length<=8388608)(A:fJ W ce (.slice l O.cs.length g) O.cs)(s:pZ W ce (.slice j O.fl.length k) O.fl):
 γ 22 #[.agg #[.slice l O.cs.length g,.slice j O.fl.length k,ι O.ex,ι O.ck],.agg #[.slice r O.cs.length n,.slice q O.fl.length p,ι O.ex,ι O.ck]] W (.bool true):=by obtain⟨-,R,I,y⟩:=h;have⟨_,_,f,L,F,z,u⟩:=fJ.rd A;have⟨_,_,H,D,t,Q,K⟩:=AX s;have⟨_,_,v,M,c,C,i⟩:=fJ.rd I;have⟨_,_,J,N,d,G,x⟩:=AX y;cases L;cases D;cases M;cases N;exact SL O.cs O.fl O.ex O.ck l j r q g k n p f H v J 0 0 0 0 W F t c d u K i x z Q C G P E
def eU.first(h:aF f b 57 [ς,ς]):eU f b (λ_=>0) 0 0 (ς) (ς):=⟨h,⟨[],uA,λi c=>by omega⟩,⟨[],uA,λi c=>by omega⟩⟩
structure pP(w3:ay)(bb i:Nat)(W:ay):Prop where
 aP:Below bb w3 W
 bW:∃E vres vgr,eU W bb E i i vres vgr/\∀j,j<i->E j<=W.heap.size
def pP.aD(h:pP f b g w)(m:b<w.heap.size)(c:μ w s):pP f b g s:=by have⟨E,l,j,k,d⟩:=h.bW;exact⟨h.aP.trans (c.mono (by omega)),E,l,j,k.aD c,λe i=>Ye (d e i) c.size⟩
