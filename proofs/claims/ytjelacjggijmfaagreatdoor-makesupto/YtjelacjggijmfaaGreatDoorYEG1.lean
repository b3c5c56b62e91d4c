/- . -/
import Derived.Test.YtjelacjggijmfaaGreatDoorYWP3
import Derived.Deep.CutRange
set_option linter.all false
set_option maxHeartbeats 4000000
set_option maxRecDepth 20000
namespace Go.Proofs.YtjelacjggijmfaaGreatDoor
open Pl Mk Cp Proofs.Tryz
open RowKit
variable {l A B C W Z w w':ay}{q I S R vc vr vres vgr v1 f1 v bm:az}{g aa ah ac ab af ae Bn n m nc nf bb j H N i k N8 c1 d1 c b L z kb:Nat}{M:fy}{p:ga}{G O:fY}{d t:f'}{f T:Nat->az}{F:ib}{ex ck:Int}{P:Program}{bL:kt}{Q:Exit->Act->ay->Prop}{a:Act}{ks cd tm:gb}{o:Oper}{J:(Nat->az)->ay->Prop}{ev:Operand->az}{s:aA}{X V:ay->Prop}{K bk:Obj}{U:Nat->Nat}{Y:hZ}{h:Act->ay->Prop}{a8:Prop}
def r9:aj:=[67,67,32,61,32,99,99,32,36,40,70,41,10,70,32,58,61,32,45,111,10,97,108,108,32,58,32,97,46,111,32,98,10,37,46,111,32,58,32,37,46,99,10,9,36,40,67,67,41,32,36,64,32,36,60,10,98,32,58,10,9,109,107,32,36,64,10]
def eQ:fy:=[⟨[82],r9,0⟩,⟨[97,46,99],[],5⟩,⟨[97,46,111],[],3⟩]
def Rf(w:ay):Calls prog 13 #[] w λe w'=>e=.returned (ξ w.heap.size 3 3)/\eJ w' w.heap.size 0 eQ/\w.heap.size<w'.heap.size/\μ w w':=by
 have d:=aF.bq w 89 [.string ⟨#[82]⟩,σ r9,ι 0,.string ⟨#[97,46,99]⟩,ε,ι 5,.string ⟨#[97,46,111]⟩,ε,ι 3];have g:μ w (w.alloc (.cells #[.string ⟨#[82]⟩,σ r9,ι 0,.string ⟨#[97,46,99]⟩,ε,ι 5,.string ⟨#[97,46,111]⟩,ε,ι 3] 89)):=ak w _;have l:Hid (eJ (w.alloc (.cells #[.string ⟨#[82]⟩,σ r9,ι 0,.string ⟨#[97,46,99]⟩,ε,ι 5,.string ⟨#[97,46,111]⟩,ε,ι 3] 89)) w.heap.size 0 eQ/\w.heap.size<(w.alloc (.cells #[.string ⟨#[82]⟩,σ r9,ι 0,.string ⟨#[97,46,99]⟩,ε,ι 5,.string ⟨#[97,46,111]⟩,ε,ι 3] 89)).heap.size/\μ w (w.alloc (.cells #[.string ⟨#[82]⟩,σ r9,ι 0,.string ⟨#[97,46,99]⟩,ε,ι 5,.string ⟨#[97,46,111]⟩,ε,ι 3] 89))):=⟨λi h=>by
  match i,h with
  |0,_=>exact⟨d.cell 0 (by simp),d.cell 1 (by simp),d.cell 2 (by simp)⟩
  |1,_=>exact⟨d.cell 3 (by simp),d.cell 4 (by simp),d.cell 5 (by simp)⟩
  |2,_=>exact⟨d.cell 6 (by simp),d.cell 7 (by simp),d.cell 8 (by simp)⟩,d.lt,g⟩
 go_in;go_wp2
 go_ret;exact⟨rfl,l⟩
def rM(n:Nat):aJ:=⟨kept,[],(n:Int)⟩
variable {r:TypeId}
def Boxed.Vx(h:Boxed w N r S v1 q I W)(d:μ W l):Boxed w N r S v1 q I l:=⟨h.row.aD d,h.aP.tr d⟩
def Uy(w:ay)(g:TypeId)(b a d h:az):Boxed w w.heap.size g b a d h (w.alloc (.cells #[b,a,d,h] g)):=⟨aF.bq w g [b,a,d,h],ak w _⟩
def Pe(n:Nat)(B:n<3)(nc nf:Nat)(ex ck:Int)(q g:fY)(h l p K y c:Nat)(w:ay)(x:0<nc->q=some ⟨p,y,none⟩)(R:0<nf->g=some ⟨K,c,none⟩)(a:nU w p y (List.replicate nc (kM n)))(C:eJ w K c (List.replicate nf (rM n)))(D:0<nc->p<w.heap.size)(E:0<nf->K<w.heap.size)(Z:nc<=16777216)(V:nf<=16777216):
 Calls prog 57 #[.agg #[.slice q nc h,.slice g nf l,.int .i64 ex,.int .i64 ck],.int .i64 n] w λe w'=>e=.returned (.bool true)/\Below w.heap.size w w':=by
 have f:=aC D;have d:=aC (Uy w 48 (.slice q nc h) (.slice g nf l) (.int .i64 ex) (.int .i64 ck));have G:=λW=>BJ n B W;go_in;go_wp2
 generalize (w.alloc (.cells #[(.slice q nc h),(.slice g nf l),(.int .i64 ex),(.int .i64 ck)] 48))=J at*;go_loopw [5] (λi wr=>∃k:Nat,i=.int .i64 k/\k<=nc/\Boxed w w.heap.size 48 (.slice q nc h) (.slice g nf l) (.int .i64 ex) (.int .i64 ck) wr) (λi _=>nc-aV i)
 case atStart=>exact⟨0,rfl,Yh _,d⟩
 obtain⟨k,rfl,P,d⟩:=hrel;have⟨m,H,Y,S⟩:=d.cells;by_cases b:k<nc
 ·obtain rfl:=(aC x).u (by omega);have U:=a.aP d.aP (f (by omega)) k (by simpa using b);rw[ZL]at U;have j:Hid (∀t,Below wr.heap.size wr t ->t.cell? ⟨p,y+k,none⟩=some (aK (kM n))/\t.cell? ⟨w.heap.size,0,none⟩=some (.slice (some ⟨p,y,none⟩) nc h)/\Boxed w w.heap.size 48 (.slice (some ⟨p,y,none⟩) nc h) (.slice g nf l) (.int .i64 ex) (.int .i64 ck) t):=λt s=>by have O:=d.Vx s;have:=a.aP O.aP (f (by omega)) k (by simpa using b);rw[ZL]at this;exact⟨this,O.cells.1,O⟩
  have A:(k:Int)<nc:=by omega
  generalize kM n=Q at*;unfold aK at U G j;go_wp2
  go_region_with (go_at_call 56;refine κ (G _) λL z=>?_;have⟨X,N,v⟩:=j _ ((ae6 (X5 _ wr)).trans (z.mono ax)))
  all_goals go_wp2
  all_goals go_roundw
  all_goals first
   |exact⟨k+1,by go_num,by omega,v⟩
   |(simp only[aV];omega)
 have A:¬(k:Int)<nc:=by omega
 go_wp2
 go_loopw [6] (λi wr=>∃k:Nat,i=.int .i64 k/\k<=nf/\Boxed w w.heap.size 48 (.slice q nc h) (.slice g nf l) (.int .i64 ex) (.int .i64 ck) wr) (λi _=>nf-aV i)
 case atStart=>exact⟨0,rfl,Yh _,d⟩
 obtain⟨r,rfl,T,d⟩:=hrel;have⟨m,H,Y,S⟩:=d.cells;by_cases aa:r <nf
 ·obtain rfl:=(aC R).u (by omega);have⟨M,I,F⟩:=C.aP d.aP ((aC E).u (by omega)) r (by simpa using aa);rw[ZL]at M I F;unfold aK rM kept at M I;unfold rM at F;simp only at M I F;have o:(r:Int)<(nf:Int):=by omega
  go_wp2
  go_roundw
  case rel=>exact⟨r +1,by go_num,by omega,d⟩
  simp only[aV];omega
 have o:¬(r:Int)<(nf:Int):=by omega
 go_wp2
 go_ret;exact⟨rfl,d.aP⟩
def Tryz.Rx:(Tryz.prog.info? 73).map (λi=>(i.zero,i.size,i.bytes))=some (some (.agg #[ε,ς,ι 0]),3,48):=by kernel_rfl
structure Hd where
 dg:aj
 wr:az
 exit:Int
def vY(h:Hd):f':=[aK h.dg,h.wr,ι h.exit]
def ke(d:List Hd):f':=d.flatMap vY
def zh:Hd:=⟨[],ς,0⟩
def u4:Hd:=⟨la,ς,0⟩
def NU(d:List Hd):(ke d).length=d.length*3:=by
 induction d with
 |nil=>rfl|cons f h g=>unfold ke at*;rw[YA,X4,g,Ya];simp[vY];omega
def I8(d:List Hd):∀(i:Nat) (h:i<d.length),(ke d)[i*3]?=some (aK d[i].dg)/\(ke d)[i*3+1]?=some d[i].wr/\(ke d)[i*3+2]?=some (ι d[i].exit):=by
 induction d with
 |nil=>intro i h;simp at h
 |cons f p g=>
  intro i h;unfold ke;rw[YA];cases i with
  |zero=>simp[vY]
  |succ i=>have:=g i (by simpa using h);unfold ke at this;have l:(vY f).length=3:=rfl;rw[YH (by omega),YH (by omega),YH (by omega),l];rw[show (i+1)*3-3=i*3 from by omega,show (i+1)*3+1-3=i*3+1 from by omega,show (i+1)*3+2-3=i*3+2 from by omega];exact this
def Su(d:List Hd)(f:Hd):∀(k:Nat) (_:k<d.length),(((ke d).set (k*3) (aK f.dg)).set (k*3+1) f.wr).set (k*3+2) (ι f.exit)=ke (d.set k f):=by
 induction d with
 |nil=>intro k h;simp at h
 |cons g q l=>
  intro k h;cases k with
  |zero=>simp[ke,vY]
  |succ k=>have:=l k (by simpa using h);unfold ke at*;rw[Y0,YA,YA];have p:(vY g).length=3:=rfl;rw[Zc _ _ (by omega),Zc _ _ (by omega),Zc _ _ (by omega),p];rw[show (k+1)*3-3=k*3 from by omega,show (k+1)*3+1-3=k*3+1 from by omega,show (k+1)*3+2-3=k*3+2 from by omega,this]
def Th:madeCells (Value.agg #[ε,ς,ι 0]).cells (n*3)=(ke (List.replicate n zh)).toArray:=by
 have t:=NU (List.replicate n zh);rw[adz]at t;apply Array.ext
 ·rw[XU];simp[t]
 intro i r G;rw[XU]at r;have y:i/3<n:=by omega
 have⟨q,l,p⟩:=I8 (List.replicate n zh) (i/3) (by simpa using y);simp only[ZL]at q l p;have d:i % 3=0\/i % 3=1\/i % 3=2:=by omega
 have h:∀v,(ke (List.replicate n zh))[i]?=some v->(ke (List.replicate n zh)).toArray[i]=v:=λv F=>by simp only[afI];exact(Yl.1 F).2
 have g:(madeCells (Value.agg #[ε,ς,ι 0]).cells (n*3))[i]'(by rw[XU];exact r)=(#[ε,ς,ι 0])[i % 3]!:=by simp[madeCells,Value.cells]
 obtain d|d|d:=d
 ·rw[h _ (show _=some (aK zh.dg) from by rw[<-q];congr 1;omega)];rw[g,d];rfl
 ·rw[h _ (show _=some zh.wr from by rw[<-l];congr 1;omega)];rw[g,d];rfl
 rw[h _ (show _=some (ι zh.exit) from by rw[<-p];congr 1;omega)];rw[g,d];rfl
def HR(w:ay)(N:Nat)(d:List Hd):Prop:=aF w N 73 (ke d)
def nK(w:ay)(N k:Nat)(h:Hd):ay:=((w.ψ N (k*3) (aK h.dg)).ψ N (k*3+1) h.wr).ψ N (k*3+2) (ι h.exit)
variable {y:List Hd}
def HR.set(h:HR w N y)(k:Nat)(d:k<y.length)(f:Hd):HR (nK w N k f) N (y.set k f):=by unfold HR nK;rw[<-Su y f k d];exact((aF.set h _ _).set _ _).set _ _
def HR.cells(h:HR w N y)(k:Nat)(r:k<y.length):
 w.cell? ⟨N,k*3,none⟩=some (aK y[k].dg)/\w.cell? ⟨N,k*3+1,none⟩=some y[k].wr/\w.cell? ⟨N,k*3+2,none⟩=some (ι y[k].exit):=by have⟨G,d,t⟩:=I8 y k r;have⟨q,g⟩:=Yl.1 G;have⟨I,F⟩:=Yl.1 d;have⟨l,p⟩:=Yl.1 t;exact⟨by rw[<-g];exact aF.cell h _ q,by rw[<-F];exact aF.cell h _ I,by rw[<-p];exact aF.cell h _ l⟩
def Fh(h:Below N w W)(k:Nat)(f:Hd):Below N w (nK W N k f):=((h.setCell (p:=η N _) ax _).setCell (p:=η N _) ax _).setCell (p:=η N _) ax _
def CR.nK(h:CR w g r M)(d:g≠N)(f:Hd):CR (nK w N k f) g r M:=by unfold CR Go.Proofs.YtjelacjggijmfaaGreatDoor.nK;exact((aF.dI h d _ _).dI d _ _).dI d _ _
structure qE(W:ay)(N:Nat)(ef:ga)(i:Nat)(h:Hd):Prop where
 jN:∀hi:i<ef.length,∃g,N<g/\CR W g 65 (ef[i].cE++iw ef[i].cE.length)/\h=⟨ef[i].dg,ξ g ef[i].cE.length (ef[i].cE.length+8),ef[i].exit⟩
 xr:ef.length<=i->h=u4
def qE.aD{h:Hd}(H:qE W N p i h)(q:μ W l):qE l N p i h:=⟨λr=>by have⟨t,y,d,g⟩:=H.jN r;exact⟨t,y,aF.aD d q,g⟩,H.xr⟩
def qE.set{k:Nat}{h:Hd}(H:qE W N p i h)(f:Hd):qE (nK W N k f) N p i h:=⟨λl=>by have⟨q,r,d,g⟩:=H.jN l;exact⟨q,r,d.nK (by omega) f,g⟩,H.xr⟩
structure gM(N:Nat)(ef:ga)(k:Nat)(W:ay):Prop where
 py:∃hs,HR W N hs/\hs.length=ef.length+8/\∀i (h:i<hs.length),i<k->qE W N ef i hs[i]
def gM.aD(h:gM N p k W)(d:μ W l):gM N p k l:=by have⟨r,F,g,q⟩:=h.py;exact⟨r,aF.aD F d,g,λi t y=>(q i t y).aD d⟩
def gM.lt{N:Nat}{k:Nat}{W:ay}(h:gM N p k W):N<W.heap.size:=by have⟨g,d,_⟩:=h.py;exact aF.lt d
def gM.aZ(h:gM N p k W)(y:k<p.length+8)(f:Hd):gM N p k (nK W N k f):=by have⟨l,t,d,g⟩:=h.py;refine⟨l.set k f,t.set k (by omega) f,by simpa using d,λi q r=>?_⟩;rw[acu (by omega)];exact(g i (by simpa using q) r).set f
def gM.step(h:gM N p k W)(y:k<p.length+8){f:Hd}(d:qE W N p k f):gM N p (k+1) (nK W N k f):=by
 have⟨q,t,g,l⟩:=h.py;refine⟨q.set k f,t.set k (by omega) f,by simpa using g,λi r F=>?_⟩;by_cases e:i=k
 ·subst e;rw[H4];exact d.set f
 rw[acu (by omega)];exact(l i (by simpa using r) (by omega)).set f
def gM.cells(h:gM N p k W)(i:Nat)(t:i<p.length+8):
 (∃v0 v1 g,W.cell? ⟨N,i*3,none⟩=some v0/\W.cell? ⟨N,i*3+1,none⟩=some v1/\W.cell? ⟨N,i*3+2,none⟩=some g)/\∀j,W.frozen? (η N j)=false:=by have⟨r,d,l,q⟩:=h.py;exact⟨⟨_,_,_,d.cells i (by omega)⟩,λj=>aF.frozen d j⟩
def gM.first(w:ay)(d:ga):gM w.heap.size d 0 (w.alloc (.cells (ke (List.replicate (d.length+8) zh)).toArray 73)):=⟨_,aF.bq w 73 _,by simp,λi _ h=>by omega⟩
def Ob(d:ga)(a:fY)(cap L b o:Nat)(w:ay)(ha:0<d.length->a=some ⟨b,o,none⟩)(K:kX w L b o d)(hL:L<=w.heap.size)(hl:d.length<=8388608)(aj:∀e∈d,e.cE.length<=8388608):
 Calls prog 21 #[.slice a d.length cap] w λe w'=>e=.returned (ξ w.heap.size d.length (d.length+8))/\gM w.heap.size d (d.length+8) w'/\μ w w':=by
 unfold ξ;obtain⟨i0,Z,N,al,X⟩:=Y1 Tryz.Rx;have av:∀w,(Instr.makeSlice 51 (ι ((d.length:Int)+8)) (ι ((d.length:Int)+8))).run prog w=.ok (ξ w.heap.size (d.length+8) (d.length+8)) (w.alloc (.cells (ke (List.replicate (d.length+8) zh)).toArray 73)):=by intro w;have:=run_make (P:=prog) w 51 73 i0 _ underlying51 Z N .i64 .i64 ((d.length+8:Nat):Int) ((d.length+8:Nat):Int) (by omega) (Int.le_refl _) (by rw[X];omega) (by omega);rw[al,acV,Th]at this;exact this
 have J:=aC K;have an:=aC ha;have ao:=aC aj;have A:=aC (gM.first w d);have ag:=aC (ak w (.cells (ke (List.replicate (d.length+8) zh)).toArray 73));have aG:=K.1;clear K ha Z N al X aj;go_enter func21,ntmps21;go_wp2_with fail
 clear av;generalize w.alloc (.cells (ke (List.replicate (d.length+8) zh)).toArray 73)=W0 at*;go_loopw [4] (λi wr=>∃k:Nat,i=ι k/\k<=d.length+8/\Hid (gM w.heap.size d k wr)/\Hid (μ w wr)) (λi _=>d.length+8-aV i)
 case atStart=>exact⟨0,rfl,Yh _,A,ag⟩
 clear A ag;obtain⟨k,rfl,aN,p,M⟩:=hrel;by_cases q:k<d.length+8
 ·obtain⟨⟨B,s,Q,c0,c1,c2⟩,F⟩:=p.u.cells k q;have f0:=F (k*3);have f1:=F (k*3+1);have f2:=F (k*3+2);have t8:(k:Int)<d.length+8:=by omega
  have G:=aC (p.u.aZ q u4);have S:=aC (Fh M.u k u4);by_cases t:k<d.length
  ·obtain rfl:=an.u (by omega);have t1:(k:Int)<d.length:=by omega
   have ac:d[k]∈d:=Ym t;have ap:=ao.u d[k] ac;have v:Hid (∀W r,w.heap.size<r->CR W r 65 (d[k].cE++iw d[k].cE.length)->qE W w.heap.size d k ⟨d[k].dg,ξ r d[k].cE.length (d[k].cE.length+8),d[k].exit⟩):=λW r h1 h2=>⟨λ_=>⟨r,h1,h2,rfl⟩,λh=>by omega⟩;obtain⟨-,-,D,T,R,H,-,I,O,aF⟩:=J.u.2 k t;have m:Hid (∀W,μ w W->xp W L b (o+k*3) d[k]):=λW l=>(J.u.2 k t).aP (l.mono hL) aG;generalize aE:d[k]=c at*;unfold nK u4 World.ψ aK la at*;simp only at*;clear p M;go_wp2_with fail
   generalize (((wr.setCell (η w.heap.size (k*3)) (.string ⟨#[116,104,101,32,99,97,108,108,101,114,39,115]⟩)).setCell (η w.heap.size (k*3+1)) (ς)).setCell (η w.heap.size (k*3+2)) (ι 0))=j at*;have aq:w.heap.size<j.heap.size:=G.u.lt;obtain⟨e0,e2,D,T,R,H,e1,I,O,aF⟩:=m.u j S.u;have CG:=aC (AO c.cE D T R H j.drew I O (by show R<j.heap.size;omega) ap);have au:Hid (∀g,Below j.heap.size j.drew g->CR g j.heap.size 65 (c.cE++iw c.cE.length)->g.χ b (o+k*3)=some (σ c.dg)/\g.χ b (o+k*3+2)=some (ι c.exit)/\(∃B s Q,g.χ w.heap.size (k*3)=some B/\g.χ w.heap.size (k*3+1)=some s/\g.χ w.heap.size (k*3+2)=some Q)/\g.frozen? (η w.heap.size (k*3))=false/\g.frozen? (η w.heap.size (k*3+1))=false/\g.frozen? (η w.heap.size (k*3+2))=false/\
    Hid (gM w.heap.size d (k+1) (((g.ψ w.heap.size (k*3) (σ c.dg)).ψ w.heap.size (k*3+1) (ξ j.heap.size c.cE.length (c.cE.length+8))).ψ w.heap.size (k*3+2) (ι c.exit)))/\Hid (μ w (((g.ψ w.heap.size (k*3) (σ c.dg)).ψ w.heap.size (k*3+1) (ξ j.heap.size c.cE.length (c.cE.length+8))).ψ w.heap.size (k*3+2) (ι c.exit)))):=λg l hc=>by
    have af:μ j g:=⟨l.os,l.tape,l.output,l.size,l.block⟩;have E:=S.u.trans (af.mono (by omega));have n:=G.u.aD af;obtain⟨C,x,-⟩:=m.u g E;obtain⟨y,z⟩:=n.cells k q;have U:=n.step q (v.u g j.heap.size aq hc);have Y:=Fh E k ⟨c.dg,ξ j.heap.size c.cE.length (c.cE.length+8),c.exit⟩;unfold nK aK at U Y;simp only at U Y;exact⟨C,x,y,z _,z _,z _,U,Y⟩
   have c':=(G.u.cells k q).1;obtain⟨aQ,aM,aI,aJ,aO,aL⟩:=c';unfold aK at e0;clear O I m v aE ac c0 c1 c2 f0 f1 f2 F;go_region_with (go_at_call 12;refine κ CG.u λw2⟨aH,aB⟩=>?_;obtain⟨C,x,⟨q0,q1,q2,y0,y1,y2⟩,z0,z1,z2,V,ax⟩:=au.u _ aB aH)
   all_goals go_wp2_with fail
   all_goals go_roundw
   all_goals first
    |exact⟨k+1,by go_num,by omega,V,ax⟩
    |(simp only[aV];omega)
  have t1:¬(k:Int)<d.length:=by omega
  have V:=aC (p.u.step q (f:=u4) ⟨λh=>absurd h t,λ_=>rfl⟩);unfold nK u4 aK la at*;simp only at*;clear p G;go_wp2_with fail
  go_roundw
  case rel=>exact⟨k+1,by go_num,by omega,V,S⟩
  simp only[aV];omega
 have t8:¬(k:Int)<d.length+8:=by omega
 have ar:k=d.length+8:=by omega
 subst ar;go_wp2_with fail
 go_ret;exact⟨rfl,p.u,M.u⟩
def gM.at(h:gM N p k W)(i:Nat)(l:i<p.length)(q:i<k):∃d,CR W d 65 (p[i].cE++iw p[i].cE.length)/\
 W.cell? ⟨N,i*3,none⟩=some (aK p[i].dg)/\W.cell? ⟨N,i*3+1,none⟩=some (ξ d p[i].cE.length (p[i].cE.length+8))/\W.cell? ⟨N,i*3+2,none⟩=some (ι p[i].exit):=by have⟨G,t,F,g⟩:=h.py;have⟨d,_,r,y⟩:=(g i (by omega) q).jN l;have:=t.cells i (by omega);rw[y]at this;exact⟨d,r,this⟩
def gM.xr(h:gM N p k W)(i:Nat)(r:p.length<=i)(y:i<p.length+8)(d:i<k):
 W.cell? ⟨N,i*3,none⟩=some (aK la)/\W.cell? ⟨N,i*3+1,none⟩=some (ς)/\W.cell? ⟨N,i*3+2,none⟩=some (ι 0):=by have⟨F,g,t,q⟩:=h.py;have l:=(q i (by omega) d).xr r;have:=g.cells i (by omega);rw[l]at this;exact this
def LJ(d:ga)(a:fY)(cap L b o N:Nat)(w:ay)(V:0<d.length->a=some ⟨b,o,none⟩)(y:kX w L b o d)(z:L<=w.heap.size)(hl:d.length<=8388608)(I:∀e∈d,e.cE.length<=8388608)(q:gM N d (d.length+8) w):
 Calls prog 25 #[.slice (some ⟨N,0,none⟩) d.length (d.length+8),.slice a d.length cap] w λe w'=>e=.returned (.bool true)/\Below w.heap.size w w':=by
 have Q:=aC y;have J:=aC V;have s:=aC I;have f:=aC q;have m:=y.1;have an:=q.lt;clear y V I q;go_enter func25,ntmps25;go_wp2_with fail
 go_loopw [6] (λi wr=>∃k:Nat,i=.int .i64 k/\k<=d.length+8/\Hid (Below w.heap.size w wr)) (λi _=>d.length+8-aV i)
 case atStart=>exact⟨0,rfl,Yh _,X5 _ _⟩
 obtain⟨k,rfl,ak,g⟩:=hrel;have h:=f.u.aD g.u;by_cases t:k<d.length+8
 ·have C:(k:Int)<d.length+8:=by omega
  by_cases r:k<d.length
  ·obtain rfl:=J.u (by omega);have B:(k:Int)<d.length:=by omega
   obtain⟨A,S,p,c,R⟩:=h.at k r t;have T:=s.u d[k] (Ym r);obtain⟨F,x,j,D,O,H,U,K,G,al⟩:=(Q.u.2 k r).aP (g.u.mono z) m;generalize d[k]=l at*;have E:=g.u.size;have Y:=aC (λn=>Gx l.cE j D O H A (wr.drewN n).drew K G (by show O<wr.heap.size;omega) T S);have Z:(l.dg !=l.dg)=false:=by simp
   have am:(l.dg==l.dg)=true:=by simp
   unfold aK at p F;clear h S G K;go_wp2_with fail
   go_quiet (fail)
   go_wp2_with fail
   have d1:(wr.drewN nq).cell? ⟨N,k*3+1,none⟩=_:=c;have X:(wr.drewN nq).cell? ⟨b,o+k*3+1,none⟩=_:=U;have ah :=aC (Y.u nq);have M:=aC (Below.drewN g.u nq);clear p c R F U x Y E;generalize wr.drewN nq=W5 at*;go_region_with (go_at_call 16;refine κ ah.u λW P=>?_;have v:=aC (M.u.drew.trans (P.mono M.u.size)))
   all_goals go_wp2_with fail
   all_goals go_roundw
   all_goals first
    |exact⟨k+1,by go_num,by omega,v⟩
    |(simp only[aV];omega)
  have B:¬(k:Int)<d.length:=by omega
  have aj:(d.length:Int)<=k:=by omega
  obtain⟨p,c,R⟩:=h.xr k (by omega) t t;unfold aK la at p;clear h;go_wp2_with fail
  go_roundw
  case rel=>exact⟨k+1,by go_num,by omega,g⟩
  simp only[aV];omega
 have C:¬(k:Int)<d.length+8:=by omega
 clear h;go_wp2_with fail
 go_ret;exact⟨rfl,g.u⟩
structure vD(W:ay)(a:fY)(cs:fv):Prop where
 jP:∃b o,(0<cs.length->a=some ⟨b,o,none⟩/\b<W.heap.size)/\nU W b o cs
structure vy(W:ay)(a:fY)(fs:fy):Prop where
 jP:∃b o,(0<fs.length->a=some ⟨b,o,none⟩/\b<W.heap.size)/\eJ W b o fs
def vD.aD{r:fv}(h:vD W G r)(q:μ W l):vD l G r:=by have⟨b,o,d,t⟩:=h.jP;exact⟨b,o,λg=>⟨(d g).1,Yo (d g).2 q.size⟩,λi y=>(q.cell (p:=η b _) (d (by omega)).2).trans (t i y)⟩
def vy.aD(h:vy W G M)(d:μ W l):vy l G M:=by have⟨b,o,t,q⟩:=h.jP;refine⟨b,o,λy=>⟨(t y).1,Yo (t y).2 d.size⟩,λi r=>?_⟩;have g:=(t (by omega)).2;exact⟨(d.cell (p:=η b _) g).trans (q i r).1,(d.cell (p:=η b _) g).trans (q i r).2.1,(d.cell (p:=η b _) g).trans (q i r).2.2⟩
structure vj(W:ay)(b o n:Nat):Prop where
 lt:b<W.heap.size
 all:∃a1 nc k1 a2 nf k2 ex ck,W.cell? ⟨b,o,none⟩=some (.slice a1 nc k1)/\W.cell? ⟨b,o+1,none⟩=some (.slice a2 nf k2)/\W.cell? ⟨b,o+2,none⟩=some (ι ex)/\W.cell? ⟨b,o+3,none⟩=some (ι ck)/\
  vD W a1 (List.replicate nc (kM n))/\vy W a2 (List.replicate nf (rM n))/\nc<=16777216/\nf<=16777216
def vj.aD(h:vj W b g n)(d:μ W l):vj l b g n:=by have⟨G,c,o,I,e,F,a,f,M,r,t,K,O,y,R,q⟩:=h.all;exact⟨Yo h.lt d.size,G,c,o,I,e,F,a,f,(d.cell (p:=η b _) h.lt).trans M,(d.cell (p:=η b _) h.lt).trans r,(d.cell (p:=η b _) h.lt).trans t,(d.cell (p:=η b _) h.lt).trans K,O.aD d,y.aD d,R,q⟩
structure xo(W:ay)(bb n:Nat):Prop where
 lt:bb<W.heap.size
 all:∃ar cr br ag cg bg,W.cell? ⟨bb,0,none⟩=some (.slice ar n cr)/\W.cell? ⟨bb,1,none⟩=some (.slice ag n cg)/\(0<n->ar=some ⟨br,0,none⟩)/\(0<n->ag=some ⟨bg,0,none⟩/\bg<W.heap.size)/\
  ∀i,i<n->vj W br (i*4) i/\∃gi ci,W.cell? ⟨bg,i,none⟩=some (ξ gi 3 ci)/\∀k,k<3->vj W gi (k*4) i
def xo.aD(h:xo W bb n)(d:μ W l):xo l bb n:=by have⟨y,V,O,Y,a,q,R,F,G,g,U⟩:=h.all;refine⟨Yo h.lt d.size,y,V,O,Y,a,q,(d.cell (p:=η bb _) h.lt).trans R,(d.cell (p:=η bb _) h.lt).trans F,G,λr=>⟨(g r).1,Yo (g r).2 d.size⟩,λi I=>?_⟩;have⟨K,c,b,S,t⟩:=U i I;exact⟨K.aD d,c,b,(d.cell (p:=η q _) (g (by omega)).2).trans S,λk M=>(t k M).aD d⟩
def Ho{n k1 k2:Nat}{ex ck:Int}(K:n<3)(q:vD W G (List.replicate nc (kM n)))(M:vy W O (List.replicate nf (rM n)))(p:nc<=16777216)(y:nf<=16777216):
 γ 57 #[.agg #[.slice G nc k1,.slice O nf k2,ι ex,ι ck],ι n] W (.bool true):=by have⟨l,t,g,I⟩:=q.jP;have⟨F,r,d,R⟩:=M.jP;rw[adz]at g d;exact Pe n K nc nf ex ck G O k1 k2 l F t r W (λh=>(g h).1) (λh=>(d h).1) I R (λh=>(g h).2) (λh=>(d h).2) p y
def QI(n X:Nat)(W:n<=2)(w:ay)(V:xo w X n):
 Calls prog 24 #[.pointer (some ⟨X,0,none⟩)] w λe w'=>e=.returned (.bool true)/\Below w.heap.size w w':=by
 go_in;go_wp2
 go_loopw [3] (λi wr=>∃k:Nat,i=.int .i64 k/\k<=n/\Below w.heap.size w wr) (λi _=>n-aV i)
 case atStart=>exact⟨0,rfl,Yh _,X5 _ _⟩
 obtain⟨k,rfl,Q,g⟩:=hrel;have⟨c,u,o,L,x,z,R,F,p,h,l⟩:=(V.aD g).all;by_cases a:k<n
 ·have⟨D,P,A,s,G⟩:=l k a;obtain rfl:=p (by omega);obtain⟨rfl,-⟩:=h (by omega);have⟨E,J,t,H,N,r,ex,ck,f,C,U,m,y,q,O,S⟩:=D.all;have K:=Ho (n:=k) (k1:=t) (k2:=r) (ex:=ex) (ck:=ck) (by omega) y q O S;have:(k:Int)<n:=by omega
  go_wp2_with (go_at_call 57;refine κ K λb M=>?_;have I:=g.tr M)
  go_loopw [4,5] (λv j wr=>∃d:Nat,v=.bool true/\j=.int .i64 d/\d<=3/\Below w.heap.size w wr) (λ_ j _=>3-aV j)
  case atStart=>exact⟨0,rfl,rfl,by omega,I⟩
  obtain⟨d,rfl,rfl,T,g⟩:=hrel;have⟨c,u,o,L,x,z,R,F,p,h,l⟩:=(V.aD g).all;by_cases B:d<3
  ·obtain⟨-,P,A,s,G⟩:=l k a;obtain⟨rfl,-⟩:=h (by omega);have⟨E,J,t,H,N,r,ex,ck,f,C,U,m,y,q,O,S⟩:=(G d B).all;have K:=Ho (n:=k) (k1:=t) (k2:=r) (ex:=ex) (ck:=ck) (by omega) y q O S;have:(d:Int)<3:=by omega
   go_wp2_with (go_at_call 57;refine κ K λb M=>?_;have I:=g.tr M)
   go_roundw
   case rel=>exact⟨d+1,rfl,by go_num,by omega,I⟩
   simp only[aV];omega
  have:¬(d:Int)<3:=by omega
  go_wp2
  go_roundw
  case rel=>exact⟨k+1,by go_num,by omega,g⟩
  simp only[aV];omega
 have:¬(k:Int)<n:=by omega
 go_wp2
 go_ret;exact⟨rfl,g⟩
def lF(n:Nat):Nat->az:=λ_=>aK (kM n)
def eZ(n:Nat):Nat->az:=λj=>if j % 3=0 then aK kept else if j % 3=1 then aK [] else ι n
structure dD(Bn:Nat)(e:TypeId)(f:Nat->az)(W W':ay):Prop where
 os:W'.os=W.os
 tape:W'.tape=W.tape
 output:W'.output=W.output
 size:W.heap.size<=W'.heap.size
 block:∀k,k<W.heap.size->W'.heap[k]?=W.heap[k]?\/(Bn<=k/\∃cs cs',aF W k e cs/\aF W' k e cs' /\cs'.length=cs.length/\∀j,cs'[j]?=cs[j]?\/cs'[j]?=some (f j))
section
variable {e:TypeId}
def dD.refl(W:ay):dD Bn e f W W:=⟨rfl,rfl,rfl,X0 _,λ_ _=> .inl rfl⟩
def dD.trans(h:dD Bn e f A B)(g:dD Bn e f B C):dD Bn e f A C:=by
 refine⟨g.os.trans h.os,g.tape.trans h.tape,g.output.trans h.output,Ye h.size g.size,λk l=>?_⟩;obtain i|⟨i,u,m,t,r,w,v⟩:=h.block k l
 ·obtain c|⟨c,o,b,a,s,q,n⟩:=g.block k (Yo l h.size)
  ·exact .inl (c.trans i)
  exact .inr ⟨c,o,b,i.symm.trans a,s,q,n⟩
 obtain c|⟨c,o,b,a,s,q,n⟩:=g.block k (Yo l h.size)
 ·exact .inr ⟨i,u,m,t,c.trans r,w,v⟩
 have p:o=m:=by
  unfold aF at a r;rw[r]at a;injection a with a;injection a with a;simpa using a.symm
 subst p;refine .inr ⟨i,u,b,t,s,q.trans w,λj=>?_⟩;obtain d|d:=n j
 ·rw[d];exact v j
 exact .inr d
def dD.set{k j:Nat}(h:aF W k e d)(y:Bn<=k):dD Bn e f W (W.ψ k j (f j)):=by
 have g:=(X5 0 W).setCell (p:=η k j) (Yh _) (f j);refine⟨g.os,g.tape,g.output,g.size,λq F=>?_⟩;by_cases r:q=k
 ·subst r;refine .inr ⟨y,d,d.set j (f j),h,h.set j (f j),by simp,λi=>?_⟩;by_cases l:j=i
  ·subst l;by_cases t:j<d.length
   ·right;simp[t]
   left;rw[Zf (by simp;omega),Zf (by omega)]
  left;rw[E0 l]
 exact .inl (Ys W (η k j) _ q r)
theorem dD.Lb:∀(d:f') (o:Nat) (W:ay) (h:f'),aF W k e h->Bn<=k->(∀j u,d[j]?=some u->u=f (o+j))->dD Bn e f W (W.setCells k o d)
 |[],_,W,_,_,_,_=>dD.refl W
 |v::q,o,W,h,l,p,g=>by have y:v=f o:=g 0 v rfl;subst y;have t:dD Bn e f W (W.ψ k o (f o)):=dD.set l p;exact t.trans (dD.Lb q (o+1) _ _ (l.set o (f o)) p (λj u r=>by have:=g (j+1) u (by simpa using r);rw[this];congr 1;omega))
def dD.bS(h:dD Bn e f A B)(d:k<A.heap.size)(g:k<Bn):B.heap[k]?=A.heap[k]?:=by
 obtain a|⟨a,_⟩:=h.block k d
 ·exact a
 omega
def dD.zk(h:dD Bn e f A B){l:Nat×Nat}(d:A.heap[k]?=some (.cells Y r l))(p:r≠e):B.heap[k]?=A.heap[k]?:=by
 obtain c|⟨_,g,b,a,_⟩:=h.block k (X8.1 d).1
 ·exact c
 unfold aF at a;rw[d]at a;cases a;exact absurd rfl p
def dD.row(h:dD Bn e f A B)(g:aF A k r d)(l:r≠e):aF B k r d:=(h.zk g l).trans g
def dD.dI(h:dD Bn e f A B)(l:A.ownsRow aa g ah v n d)(q:g≠e):B.ownsRow aa g ah v n d:=bI l (λk p=>by have⟨t,y,r⟩:=dZ l k p;exact h.zk r q)
def dD.bG(h:dD Bn e f A B){D G:Nat}(l:A.ownsRow D e G v n ((List.range (n*G)).map f)):B.ownsRow D e G v n ((List.range (n*G)).map f):=by
 refine⟨l.1,?_⟩;obtain z|⟨g,i,b,rfl,o,m,s,t,w,u⟩:=l.2
 ·exact .inl z
 right;obtain x|⟨_,y,k,a,E,F,C⟩:=h.block g (X8.1 m).1
 ·exact⟨g,i,b,rfl,o,x.trans m,s,t,w,u⟩
 have r:y=b.toList:=by
  unfold aF at a;rw[m]at a;injection a with a;injection a with a;simp[a]
 subst r;refine⟨g,i,k.toArray,rfl,o,E,s,t,by simp[F,w],?_⟩;simp only
 apply adw;intro j;by_cases d:j<n*G
 ·have q:((List.range (n*G)).map f)[j]?=some (f j):=by simp[d]
  rw[NM d,q];obtain c|c:=C j
  ·rw[c];have p:(b.toList.take (n*G))[j]?=some (f j):=by rw[u];exact q
   rw[NM d]at p;exact p
  exact c
 rw[Zf (by simp;omega),Zf (by simp;omega)]
def dD.xc(h:W.grownBy l none):dD Bn e f W l:=⟨h.os,h.tape,h.output,h.size,λk d=> .inl (h.block k d (by simp))⟩
def MI{P:Program}(w:ay)(D:Nat)(g F:TypeId)(i:TypeInfo)(z:az)(size bytes:Nat)(G:P.underlying g=some (.slice e))(M:P.info? e=some i)(U:i.zero=some z)(h:i.size=size)(x:i.bytes=bytes)(s:z.cells.size=size)(V:0<size)(v:az)(n:Nat)(O:w.ownsRow D e size v n ((List.range (n*size)).map f))(Z:Bn<=D)(l:Addr)(m c:Nat)(K:∀j u,((List.range (m*size)).map (λj=>f (n*size+j)))[j]?=some u->w.cell? (l.add j)=some u)(N:∀j,(f j).oneCell' =true)(S:n+m<=maxLen)(C:(n+m)*bytes<=140737488355328)(ak:D<=w.heap.size):
 ∃t w',(Builtin.append_ #[g,g] F #[v,.slice (some l) m c]).run P w=.ok t w'/\w'.ownsRow D e size t (n+m) ((List.range ((n+m)*size)).map f)/\dD Bn e f w w':=by
 have q:((List.range (m*size)).map (λj=>f (n*size+j))).length=m*size:=by simp
 have E:∀u∈(List.range (m*size)).map (λj=>f (n*size+j)),u.oneCell' =true:=λu T=>by obtain⟨j,_,rfl⟩:=YC.1 T;exact N _
 have⟨t,w',I,b,W,_⟩:=run_append_own (P:=P) w D g F e i z size bytes G M U h x s V v n _ O l m c _ q K E S C ak;have aj:(List.range (n*size)).map f++(List.range (m*size)).map (λj=>f (n*size+j))=(List.range ((n+m)*size)).map f:=by rw[L2,List.range_add,Yy,k6];rfl
 rw[aj]at b;refine⟨t,w',I,b,?_⟩;obtain⟨rfl,hn⟩|⟨y,a,r,rfl,q2,R,q4,q5,L,H⟩:=O.2
 ·exact dD.xc W
 by_cases A:n+m<=a
 ·have p:aF w y e r.toList:=by unfold aF;simpa using R
  have Q:∀j,j<((List.range (m*size)).map (λj=>f (n*size+j))).length->0+n*i.size+j<r.toList.length:=λj d=>by rw[q]at d;have:(n+m)*size<=a*size:=Zs _ A;rw[L2]at this;simp only[afV,L,h];omega
  have B:=run_append_room_cells (P:=P) w g F e i G M y 0 n a l m c _ (by rw[h];exact q) K E A (λj d=>by rw[p.cell _ (Q j d)];rfl) (λj d=>p.frozen _);rw[I]at B;injection B with e1 e2;subst e2;refine dD.Lb _ _ w _ p (by omega) (λj u d=>?_);obtain⟨k,rfl⟩:=Yl.1 d;simp[h]
 have⟨v2,w2,o,_,J⟩:=run_append_arg_grows (P:=P) w g F e i z size bytes G M U h x s V (η y 0) n a _ O.1 (λj u d=>by
  obtain⟨k,rfl⟩:=Yl.1 d;rw[jx];have p:aF w y e r.toList:=by unfold aF;simpa using R
  have X:j<n*size:=by simpa using k
  refine p.cell? ?_;have Y:(r.toList.take (n*size))[j]?=some ((List.range (n*size)).map f)[j]:=by rw[H];exact d
  rw[NM X]at Y;exact Y) l m c _ q K (by omega) S C
 rw[I]at o;injection o with e1 e2;subst e2;exact dD.xc J
end
def jg(n k:Nat):f':=(List.range (k*1)).map (lF n)
def jC(n k:Nat):f':=(List.range (k*3)).map (eZ n)
structure eN(W:ay)(D E n:Nat)(vc:az)(nc:Nat)(vr:az)(nf:Nat):Prop where
 cm:W.ownsRow D 9 1 vc nc (jg n nc)
 fi:W.ownsRow D 65 3 vr nf (jC n nf)
 lc:∀k,vc.ownBlock=some k->k<E
 lf:∀k,vr.ownBlock=some k->k<E
 hc:nc<=16777216
 hf:nf<=16777216
section
variable {D E E':Nat}
def eN.aD(h:eN W D E n vc nc vr nf)(g:μ W Z):eN Z D E n vc nc vr nf:=⟨bI h.cm (λk d=>g.block k (h.cm.lt k d).2),bI h.fi (λk d=>g.block k (h.fi.lt k d).2),h.lc,h.lf,h.hc,h.hf⟩
def eN.bS(h:eN W D E n vc nc vr nf)(d:∀k,k<E->k<W.heap.size->Z.heap[k]?=W.heap[k]?):eN Z D E n vc nc vr nf:=⟨bI h.cm (λk q=>d k (h.lc k q) (h.cm.lt k q).2),bI h.fi (λk q=>d k (h.lf k q) (h.fi.lt k q).2),h.lc,h.lf,h.hc,h.hf⟩
def eN.kV(h:eN W D E n vc nc vr nf)(d:dD Bn 9 (lF n) W Z):eN Z D E n vc nc vr nf:=⟨d.bG h.cm,d.dI h.fi (by decide),h.lc,h.lf,h.hc,h.hf⟩
def eN.kW(h:eN W D E n vc nc vr nf)(d:dD Bn 65 (eZ n) W Z):eN Z D E n vc nc vr nf:=⟨d.dI h.cm (by decide),d.bG h.fi,h.lc,h.lf,h.hc,h.hf⟩
def eN.wide(h:eN W D E n vc nc vr nf)(d:E<=E'):eN W D E' n vc nc vr nf:=⟨h.cm,h.fi,λk e=>Yo (h.lc k e) d,λk e=>Yo (h.lf k e) d,h.hc,h.hf⟩
def eN.kept(h:eN W D E n vc nc vr nf)(y:W.grownBy Z F)(t:∀k,F=some k->∃p l q,W.heap[k]?=some (Obj.cells p l q)/\l≠9/\l≠65):eN Z D E n vc nc vr nf:=by
 refine⟨bI h.cm (λk d=>y.block k (h.cm.lt k d).2 (λe=>?_)),bI h.fi (λk d=>y.block k (h.fi.lt k d).2 (λe=>?_)),h.lc,h.lf,h.hc,h.hf⟩
 ·have⟨p,l,q,r,I,_⟩:=t k e.symm;have⟨K,M,g⟩:=dZ h.cm k d;rw[r]at g;cases g;exact I rfl
 have⟨p,l,q,r,_,G⟩:=t k e.symm;have⟨K,M,g⟩:=dZ h.fi k d;rw[r]at g;cases g;exact G rfl
end
def oT(W:ay)(D E n:Nat)(d:f')(k:Nat):Prop:=∃a e b f c g,(d.drop (4*k)).take 4=[a,b,ι c,ι g]/\eN W D E n a e b f
structure eU(W:ay)(bb:Nat)(E:Nat->Nat)(n m:Nat)(vres vgr:az):Prop where
 row:aF W bb 57 [vres,vgr]
 cS:∃cs,W.ownsRow (bb+1) 48 4 vres n cs/\∀i,i<n->oT W (bb+1) (E i) i cs i
 gr:∃gs,W.ownsRow (bb+1) 54 1 vgr m gs/\∀i,i<m->∃g ci cs,gs[i]?=some (ξ g 3 ci)/\bb<g/\aF W g 48 cs/\cs.length=12/\some g≠vres.ownBlock/\∀k,k<3->oT W (bb+1) (E i) i cs k
section
variable {E E':Nat->Nat}
def oT.map(h:oT W aa ah i d k)(p:∀vc nc vr nf,eN W aa ah i vc nc vr nf->eN Z aa g i vc nc vr nf):oT Z aa g i d k:=by have⟨vc,nc,vr,nf,a,b,q,l⟩:=h;exact⟨vc,nc,vr,nf,a,b,q,p _ _ _ _ l⟩
def eU.map(h:eU W bb E n m vres vgr)(q:∀(k:Nat) (d:hZ) (r:TypeId) (l:Nat×Nat),W.heap[k]?=some (Obj.cells d r l)->r=57\/r=48\/r=54->Z.heap[k]?=W.heap[k]?)(F:∀i vc nc vr nf,i<n\/i<m->eN W (bb+1) (E i) i vc nc vr nf->eN Z (bb+1) (E' i) i vc nc vr nf):eU Z bb E' n m vres vgr:=by
 have⟨V,I,O⟩:=h.cS;have⟨Y,y,R⟩:=h.gr;refine⟨(q bb _ _ _ h.row (.inl rfl)).trans h.row,⟨V,bI I (λk p=>?_),λi g=>(O i g).map (λ_ _ _ _=>F i _ _ _ _ (.inl g))⟩,⟨Y,bI y (λk p=>?_),λi g=>?_⟩⟩
 ·have⟨d,l,t⟩:=dZ I k p;exact q k d _ l t (.inr (.inl rfl))
 ·have⟨d,l,t⟩:=dZ y k p;exact q k d _ l t (.inr (.inr rfl))
 have⟨G,c,b,a,e,K,M,U,S⟩:=R i g;exact⟨G,c,b,a,e,(q G _ _ _ K (.inr (.inl rfl))).trans K,M,U,λk p=>(S k p).map (λ_ _ _ _=>F i _ _ _ _ (.inr g))⟩
def eU.aD(h:eU W bb E n m vres vgr)(d:μ W Z):eU Z bb E n m vres vgr:=h.map (λk _ _ _ g _=>d.block k (X8.1 g).1) (λ_ _ _ _ _ _ h=>h.aD d)
def eU.wide(h:eU W bb E n m vres vgr)(d:∀i,i<n\/i<m->E i<=E' i):eU W bb E' n m vres vgr:=h.map (λ_ _ _ _ _ _=>rfl) (λi _ _ _ _ g h=>h.wide (d i g))
def eU.kV(h:eU W bb E n m vres vgr)(d:dD Bn 9 (lF g) W Z)(l:∀i,i<n\/i<m->E i<=Bn\/i=g):eU Z bb E n m vres vgr:=by
 refine h.map (λk y I F r q=>d.zk r (by rcases q with rfl|rfl|rfl<;>decide)) (λi _ _ _ _ t h=>?_);obtain e|rfl:=l i t
 ·exact h.bS (λk G p=>d.bS p (by omega))
 exact h.kV d
def eU.kW(h:eU W bb E n m vres vgr)(d:dD Bn 65 (eZ g) W Z)(l:∀i,i<n\/i<m->E i<=Bn\/i=g):eU Z bb E n m vres vgr:=by
 refine h.map (λk y I F r q=>d.zk r (by rcases q with rfl|rfl|rfl<;>decide)) (λi _ _ _ _ t h=>?_);obtain e|rfl:=l i t
 ·exact h.bS (λk G p=>d.bS p (by omega))
 exact h.kW d
def eU.push(h:eU W bb E n n vres vgr)(l:f')(t:W.ownsRow (bb+1) 48 4 vres n l)(aj:∀i,i<n->oT W (bb+1) (E i) i l i)(g:W.grownBy Z vres.ownBlock)(V:Z.ownsRow (bb+1) 48 4 q (n+1) (l++[vc,vr,ι ex,ι ck]))(hf:pS W vres q)(b:eN W (bb+1) (E n) n vc nc vr nf):eU (Z.ψ bb 0 q) bb E (n+1) n q vgr:=by
 have⟨S,M,c⟩:=h.gr;have L:=h.row.lt;have z:∀k,vres.ownBlock=some k->∃K O y,W.heap[k]?=some (Obj.cells K O y)/\O≠9/\O≠65:=λk e=>by have⟨K,y,hc⟩:=dZ t k e;exact⟨K,_,y,hc,by decide,by decide⟩
 have C:∀k,k<=bb->Z.heap[k]?=W.heap[k]?:=λk p=>g.block k (by omega) (λe=>by have:=(t.lt k e.symm).1;omega);have w:aF Z bb 57 [vres,vgr]:=(C bb ax).trans h.row;have D:∀k,k≠bb->(Z.ψ bb 0 q).heap[k]?=Z.heap[k]?:=λk p=>Ys Z (η bb 0) _ k p;have I:∀i vc nc vr nf,eN W (bb+1) (E i) i vc nc vr nf->eN (Z.ψ bb 0 q) (bb+1) (E i) i vc nc vr nf:=λi vc nc vr nf B=>by have d:=B.kept g z;exact⟨cP d.cm (cQ d.cm (by omega)) _ _,cP d.fi (cQ d.fi (by omega)) _ _,d.lc,d.lf,d.hc,d.hf⟩
 have J:l.length=n*4:=t.1;refine⟨w.set 0 q,⟨_,cP V (cQ V (by omega)) _ _,λi Y=>?_⟩,⟨S,?_,λi Y=>?_⟩⟩
 ·by_cases A:i<n
  ·have⟨H,j,m,u,o,ak,F,R⟩:=aj i A;refine⟨H,j,m,u,o,ak,?_,I _ _ _ _ _ R⟩;rw[abS (by omega),abd (by simp;omega),F]
  have:i=n:=by omega
  subst this;refine⟨vc,nc,vr,nf,ex,ck,?_,I _ _ _ _ _ b⟩;rw[List.drop_append,Zz (by omega),show 4*i-l.length=0 by omega];simp
 ·have:Z.ownsRow (bb+1) 54 1 vgr n S:=by
   obtain e|e:=mc M t (by decide)
   ·exact Y' M g (.inl e)
   exact Y' M g (.inr e)
  exact cP this (cQ this (by omega)) _ _
 have⟨r,x,s,F,R,G,v,U,f⟩:=c i Y;refine⟨r,x,s,F,R,(D r (by omega)).trans ((g.block r G.lt U).trans G),v,λe=>?_,λk p=>(f k p).map (λ_ _ _ _=>I i _ _ _ _)⟩;obtain a |a:=hf r e.symm
 ·exact U a.symm
 have:=G.lt;omega
end
structure KA(w:ay)(bb H N:Nat)(E:Nat->Nat)(n:Nat)(vres vgr:az)(vc:az)(nc:Nat)(vr:az)(nf:Nat)(ex ck:Int)(i k:Nat)(W:ay):Prop where
 bW:eU W bb E n n vres vgr
 fw:aF W N 48 [vc,vr,ι ex,ι ck]
 jJ:aF W (N+1) 65 [.string ⟨kept.toArray⟩,.string ⟨#[]⟩,ι n]
 cm:∃xs,W.ownsRow H 9 1 vc nc xs/\∀j,j<i->xs[j]?=some (lF n j)
 fi:∃ys,W.ownsRow H 65 3 vr nf ys/\∀j,j<k*3->ys[j]?=some (eZ n j)
 aP:Below bb w W
section
variable {E:Nat->Nat}
def KA.aD(h:KA w bb H N E n vres vgr vc nc vr nf ex ck i k W)(d:μ W Z):KA w bb H N E n vres vgr vc nc vr nf ex ck i k Z:=by have⟨y,l,r⟩:=h.cm;have⟨q,p,t⟩:=h.fi;have:=h.bW.row.lt;exact⟨h.bW.aD d,h.fw.aD d,h.jJ.aD d,⟨y,bI l (λk g=>d.block k (l.lt k g).2),r⟩,⟨q,bI p (λk g=>d.block k (p.lt k g).2),t⟩,h.aP.trans (d.mono (by omega))⟩
def yS(h:W.ownsRow aa ah ab (ξ g n ac) n d):(W.ψ g j q).ownsRow aa ah ab (ξ g n ac) n (d.set j q):=by
 refine⟨by simp[h.1],.inr ?_⟩;obtain⟨l,_⟩|⟨R,O,p,l,u,K,t,y,M,F⟩:=h.2
 ·cases l
 cases l;have I:aF W g ah p.toList:=by unfold aF;simpa using K
 refine⟨g,ac,(p.toList.set j q).toArray,rfl,u,I.set j q,t,y,by simp[M],?_⟩;simp only;rw[<-F,List.take_set]
def KA.Xk(h:KA w bb H N E n vres vgr (ξ g nc aa) nc vr nf ex ck i k W)(K:i<nc)(v:bb<H)(t:∀i,i<n->E i<=H):KA w bb H N E n vres vgr (ξ g nc aa) nc vr nf ex ck (i+1) k (W.ψ g i (σ (kM n))):=by
 obtain⟨o,d,y⟩:=h.cm;obtain⟨M,F,O⟩:=h.fi;obtain⟨Y,a,u⟩:=dZ d g rfl;have I:=(d.lt g rfl).1;have R:∃r,aF W g 9 r:=by
  rcases d.2 with⟨q,_⟩|⟨b,c,U,S,_,V,_⟩
  ·cases q
  cases S;exact⟨U.toList,by unfold aF;simpa using V⟩
 obtain⟨r,G⟩:=R;have l:dD H 9 (lF n) W (W.ψ g i (σ (kM n))):=dD.set (f:=lF n) (j:=i) G I;have m:=d.1;refine⟨h.bW.kV l (λi K=> .inl (t i (by omega))),l.row h.fw (by decide),l.row h.jJ (by decide),⟨_,yS d,λj s=>?_⟩,⟨M,l.dI F (by decide),O⟩,h.aP.setCell (p:=η g i) (by show bb<=g;omega) _⟩;by_cases e:j=i
 ·subst e;rw[O' (by omega)];rfl
 rw[E0 (λq=>e q.symm)];exact y j (by omega)
def KA.oh{g cap:Nat}(h:KA w bb H N E n vres vgr vc nc (ξ g nf cap) nf ex ck i k W)(Y:k<nf)(l:N+1≠g)(u:bb<H)(e:∀i,i<n->E i<=H):KA w bb H N E n vres vgr vc nc (ξ g nf cap) nf ex ck i (k+1) (((W.ψ g (k*3) (σ kept)).ψ g (k*3+1) (ε)).ψ g (k*3+2) (ι n)):=by
 have⟨m,b,R⟩:=h.cm;have⟨z,d,S⟩:=h.fi;have t:=(d.lt g rfl).1;have o:∃F,aF W g 65 F:=by
  obtain⟨q,_⟩|⟨v,x,c,a,_,U,_⟩:=d.2
  ·cases q
  cases a;exact⟨c.toList,by unfold aF;simpa using U⟩
 have⟨F,K⟩:=o;have O:σ kept=eZ n (k*3):=by unfold eZ;rw[Yd (by omega)];rfl
 have s:ε=eZ n (k*3+1):=by unfold eZ;rw[Yb (by omega),Yd (by omega)];rfl
 have V:ι n=eZ n (k*3+2):=by unfold eZ;rw[Yb (by omega),Yb (by omega)]
 rw[O,s,V];have u1:dD H 65 (eZ n) W _:=dD.set (f:=eZ n) (j:=k*3) K t;have I:=K.set (k*3) (eZ n (k*3));have u2:dD H 65 (eZ n) _ _:=dD.set (f:=eZ n) (j:=k*3+1) I t;have u3:dD H 65 (eZ n) _ _:=dD.set (f:=eZ n) (j:=k*3+2) (I.set (k*3+1) (eZ n (k*3+1))) t;have r:=(u1.trans u2).trans u3;have:=d.1;refine⟨h.bW.kW r (λi Y=> .inl (e i (by omega))),r.row h.fw (by decide),((h.jJ.dI l _ _).dI l _ _).dI l _ _,⟨m,r.dI b (by decide),R⟩,⟨_,yS (yS (yS d)),λj A=>?_⟩,((h.aP.setCell (p:=η g (k*3)) (by show bb<=g;omega) _).setCell (p:=η g (k*3+1)) (by show bb<=g;omega) _).setCell (p:=η g (k*3+2)) (by show bb<=g;omega) _⟩;by_cases M:j=k*3+2
 ·subst M;rw[O' (by simp;omega)]
 rw[E0 (λq=>M q.symm)];by_cases G:j=k*3+1
 ·subst G;rw[O' (by simp;omega)]
 rw[E0 (λq=>G q.symm)];by_cases y:j=k*3
 ·subst y;rw[O' (by omega)]
 rw[E0 (λq=>y q.symm)];exact S j (by omega)
end
def Tryz.RD:(Tryz.prog.info? 48).map (λi=>(i.zero,i.size,i.bytes))=some (some (.agg #[ς,ς,ι 0,ι 0]),4,64):=by kernel_rfl
def Ec(F:o.guard=none)(s x:Operand)(K:TypeId)(G:o.op=Op.call {callee:=Callee.builtin Builtin.append,args:= #[s,x],argTypes:= #[K,K]})(L:Nat)(e:TypeId)(i:TypeInfo)(z:az)(size bytes:Nat)(R:P.underlying K=some (.slice e))(t:P.info? e=some i)(k:i.zero=some z)(O:i.size=size)(U:i.bytes=bytes)(H:z.cells.size=size)(S:0<size)(v:az)(n:Nat)(p:f')(A:a.eval s=v)(q:w.ownsRow L e size v n p)(l:Addr)(m c:Nat)(g:f')(B:a.eval x=.slice (some l) m c)(C:g.length=m*size)(J:∀j u,g[j]?=some u->w.cell? (l.add j)=some u)(D:∀u∈g,u.oneCell' =true)(r:n+m<=maxLen)(f:(n+m)*bytes<=140737488355328)(M:L<=w.heap.size)(V:∀d w',w'.ownsRow L e size d (n+m) (p++g)->w.grownBy w' v.ownBlock->(d.ownBlock=v.ownBlock\/d.ownBlock=some w.heap.size)->h (a.put o.dst d) w'):
 if Region.wanted o (yielded bL a.tmps)=true then Oper.wp P o a w h Q else a8:=by
 have Y:Region.wanted o (yielded bL a.tmps)=true:=by simp[Region.wanted,F]
 rw[Yd Y];have⟨d,w',b,y,E,_,I⟩:=aes (P:=P) w L K o.type e i z size bytes R t k O U H S v n p q l m c g C J D r f M;unfold Oper.wp;simp[execOp,G,resolve,invoke,builtin,A,B,b,Result.andThen];exact V d w' y E I
def PR(h l:fY)(p a q g:Nat)(b c:Int):∀u∈[Value.slice h p a,.slice l q g,ι b,ι c],u.oneCell' =true:=by intro u d;simp only[YD,ZC,k8]at d;rcases d with rfl|rfl|rfl|rfl<;>rfl
def OE(h:q.ownBlock=v.ownBlock\/q.ownBlock=some (w.alloc K).drew.heap.size):pS w v q:=λk d=>by
 obtain e|e:=h
 ·exact .inl (e▸d)
 rw[e]at d;cases d;exact .inr (by show w.heap.size<=(w.alloc K).heap.size;rw[X_];omega)
def Ew(E:Nat->Nat)(n h:Nat):Nat->Nat:=λi=>if i=n then h else E i
def vx(E:Nat->Nat):Ew E n g n=g:=by unfold Ew;rw[Yd rfl]
def xq(d:i≠n):Ew U n g i=U i:=by unfold Ew;rw[Yb d]
structure KB(w:ay)(bb H N:Nat)(E:Nat->Nat)(n:Nat)(vres vgr:az)(vc:az)(nc:Nat)(vr:az)(nf:Nat)(ex ck:Int)(W:ay):Prop where
 bW:eU W bb E (n+1) n vres vgr
 fw:aF W N 48 [vc,vr,ι ex,ι ck]
 jJ:aF W (N+1) 65 [.string ⟨kept.toArray⟩,.string ⟨#[]⟩,ι n]
 dx:eN W H W.heap.size n vc nc vr nf
 aP:Below bb w W
def KA.dx(h:KA w bb H N U n vres vgr vc nc vr nf ex ck nc nf W)(K:nc<=16777216)(t:nf<=16777216):eN W H W.heap.size n vc nc vr nf:=by
 have⟨F,l,q⟩:=h.cm;have⟨G,p,r⟩:=h.fi;have ex:F=jg n nc:=by
  have:=l.1;apply adw;intro j;by_cases d:j<nc
  ·rw[q j d];unfold jg;simp[d]
  rw[Zf (by omega),Zf (by unfold jg;simp;omega)]
 have I:G=jC n nf:=by
  have:=p.1;apply adw;intro j;by_cases d:j<nf*3
  ·rw[r j d];unfold jC;simp[d]
  rw[Zf (by omega),Zf (by unfold jC;simp;omega)]
 subst ex;subst I;exact⟨l,p,λk g=>(l.lt k g).2,λk g=>(p.lt k g).2,K,t⟩
def KB.start(h:KA w bb H N U n vres vgr vc nc vr nf ex ck nc nf A)(R:eN A H A.heap.size n vc nc vr nf)(G:A.ownsRow (bb+1) 48 4 vres n d)(I:∀k,vres.ownBlock=some k->k<N)(b:bb<N)(F:bb<H)(g:A.grownBy l vres.ownBlock)(S:eU (l.ψ bb 0 q) bb (Ew U n A.heap.size) (n+1) n q vgr):KB w bb H N (Ew U n A.heap.size) n q vgr vc nc vr nf ex ck (l.ψ bb 0 q):=by
 have M:∀k,vres.ownBlock=some k->∃r y t,A.heap[k]?=some (Obj.cells r y t)/\y≠9/\y≠65:=λk e=>by have⟨r,t,O⟩:=dZ G k e;exact⟨r,_,t,O,by decide,by decide⟩
 have a:=R.kept g M;have:(l.ψ bb 0 q).heap.size=l.heap.size:=by simp
 have:=g.size;have K:Below bb A l:=⟨g.os,g.tape,g.output,g.size,λk V=>g.block k (by have:=h.bW.row.lt;omega) (λe=>by have:=(G.lt k e.symm).1;omega)⟩;refine⟨S,(h.fw.grown g (λe=>?_)).dI (by omega) _ _,(h.jJ.grown g (λe=>?_)).dI (by omega) _ _,⟨cP a.cm (cQ a.cm F) _ _,cP a.fi (cQ a.fi F) _ _,λk e=>?_,λk e=>?_,a.hc,a.hf⟩,(h.aP.trans K).setCell (p:=η bb 0) ax _⟩
 ·have:=I N e.symm;omega
 ·have:=I (N+1) e.symm;omega
 ·have:=a.lc k e;omega
 have:=a.lf k e;omega
def dD.kG{e:TypeId}(h:dD Bn e f A B)(g:aF A k e d)(p:∀j u,d[j]?=some u->u=f j):aF B k e d:=by
 obtain n|⟨_,b,i,a,m,r,o⟩:=h.block k g.lt
 ·exact n.trans g
 have q:b=d:=by
  unfold aF at a g;rw[g]at a;injection a with a;injection a with a;simpa using a.symm
 subst q;have:i =b:=by
  apply adw;intro j;obtain c|c:=o j
  ·exact c
  by_cases l:j<b.length
  ·rw[c,X9 l,<-p j b[j] (X9 l)]
  rw[Zf (by omega),Zf (by omega)]
 subst this;exact m
def Ox(n:Nat):∀j u,([σ kept,ε,ι n]:f')[j]?=some u->u=eZ n j:=λj u d=>by
 match j,d with
 |0,d=>cases d;rfl
 |1,d=>cases d;rfl
 |2,d=>cases d;rfl
section
variable {E:Nat->Nat}
def KB.aD(h:KB w bb H N E n vres vgr vc nc vr nf ex ck W)(d:μ W Z):KB w bb H N E n vres vgr vc nc vr nf ex ck Z:=⟨h.bW.aD d,h.fw.aD d,h.jJ.aD d,(h.dx.aD d).wide d.size,h.aP.trans (d.mono (by have:=h.bW.row.lt;omega))⟩
def KB.kV(h:KB w bb H N E n vres vgr vc nc vr nf ex ck W)(d:dD H 9 (lF n) W Z)(g:∀i,i<n->E i<=H)(l:bb<H):KB w bb H N E n vres vgr vc nc vr nf ex ck Z:=⟨h.bW.kV d (λi p=>by by_cases e:i=n;exact .inr e;exact .inl (g i (by omega))),d.row h.fw (by decide),d.row h.jJ (by decide),(h.dx.kV d).wide d.size,h.aP.trans ⟨d.os,d.tape,d.output,d.size,λk q=>d.bS (by have:=h.bW.row.lt;omega) (by omega)⟩⟩
def KB.kW(h:KB w bb H N E n vres vgr vc nc vr nf ex ck W)(d:dD H 65 (eZ n) W Z)(g:∀i,i<n->E i<=H)(l:bb<H):KB w bb H N E n vres vgr vc nc vr nf ex ck Z:=⟨h.bW.kW d (λi p=>by by_cases e:i=n;exact .inr e;exact .inl (g i (by omega))),d.row h.fw (by decide),d.kG h.jJ (Ox n),(h.dx.kW d).wide d.size,h.aP.trans ⟨d.os,d.tape,d.output,d.size,λk q=>d.bS (by have:=h.bW.row.lt;omega) (by omega)⟩⟩
end
structure gS(bb H n:Nat)(vres:az)(N8:Nat)(v1:az)(c1:Nat)(f1:az)(d1:Nat)(W:ay):Prop where
 row:aF W N8 48 [v1,f1,ι 0,ι 0]
 dx:eN W H W.heap.size n v1 c1 f1 d1
 gt:bb<N8
 ne:some N8≠vres.ownBlock
section
def gS.aD(h:gS bb H n vres N8 v1 c1 f1 d1 W)(d:μ W Z):gS bb H n vres N8 v1 c1 f1 d1 Z:=⟨h.row.aD d,(h.dx.aD d).wide d.size,h.gt,h.ne⟩
def gS.kV(h:gS bb H n vres N8 v1 c1 f1 d1 W)(d:dD H 9 (lF n) W Z):gS bb H n vres N8 v1 c1 f1 d1 Z:=⟨d.row h.row (by decide),(h.dx.kV d).wide d.size,h.gt,h.ne⟩
def gS.kW(h:gS bb H n vres N8 v1 c1 f1 d1 W)(d:dD H 65 (eZ n) W Z):gS bb H n vres N8 v1 c1 f1 d1 Z:=⟨d.row h.row (by decide),(h.dx.kW d).wide d.size,h.gt,h.ne⟩
end
def D8{Bn:Nat}{f:Nat->az}(t:o.guard=none)(s x:Operand)(g:TypeId)(y:o.op=Op.call {callee:=Callee.builtin Builtin.append,args:= #[s,x],argTypes:= #[g,g]})(D:Nat)(e:TypeId)(i:TypeInfo)(z:az)(size bytes:Nat)(M:P.underlying g=some (.slice e))(q:P.info? e=some i)(k:i.zero=some z)(I:i.size=size)(R:i.bytes=bytes)(H:z.cells.size=size)(O:0<size)(v:az)(n:Nat)(A:a.eval s=v)(l:w.ownsRow D e size v n ((List.range (n*size)).map f))(F:Bn<=D)(X:Addr)(m c:Nat)(B:a.eval x=.slice (some X) m c)(Y:∀j u,((List.range (m*size)).map (λj=>f (n*size+j)))[j]?=some u->w.cell? (X.add j)=some u)(C:∀j,(f j).oneCell' =true)(p:n+m<=maxLen)(b:(n+m)*bytes<=140737488355328)(G:D<=w.heap.size)(S:∀d w',w'.ownsRow D e size d (n+m) ((List.range ((n+m)*size)).map f)->dD Bn e f w w' ->h (a.put o.dst d) w'):
 if Region.wanted o (yielded bL a.tmps)=true then Oper.wp P o a w h Q else a8:=by
 have U:Region.wanted o (yielded bL a.tmps)=true:=by simp[Region.wanted,t]
 rw[Yd U];have⟨d,w',V,r,E⟩:=MI (P:=P) (Bn:=Bn) (f:=f) w D g o.type i z size bytes M q k I R H O v n l F X m c Y C p b G;unfold Oper.wp;simp[execOp,y,resolve,invoke,builtin,A,B,V,Result.andThen];exact S d w' r E
def U9(n j:Nat):(lF n j).oneCell' =true:=rfl
def T_(n j:Nat):(eZ n j).oneCell' =true:=by unfold eZ;split;rfl;split<;>rfl
def Jv(h:aF w b r d)(e:t=d):∀j u,t[j]?=some u->w.cell? ((⟨b,0,none⟩:Addr).add j)=some u:=λj u g=>by subst e;rw[jx];exact h.cell? g
section
def yp(a:kt):Bool:=(List.range a.size).all λj=>match a[j]? with
 |none=>true
 |some o=>o.after.all λe=> !(Region.binds .any e)||decide (e.on<j)
def Kl{d:Array Bool}(t:yp bL=true)(F:Region.ready .any bL d=[])(I:d.size=bL.size):∀j,j<bL.size->d.getD j false=true:=by
 intro j;induction j using Nat.strongRecOn with
 |ind j y=>
  intro g;by_cases h:d.getD j false=true
  ·exact h
  exfalso;have G:j∉Region.ready .any bL d:=by rw[F];simp
  refine G (mem_ready.2 ⟨?_,bL[j],by simp[g],λe q r=>y e.on ?_ ?_⟩)
  ·have:j<d.size:=by omega
   simp[this]at h⊢;exact h
  ·have l:=uu.1 t j (ZX.2 g);simp only[g,aer]at l;have p:=adx.1 l e q;simpa [r]using p
  have l:=uu.1 t j (ZX.2 g);simp only[g,aer]at l;have p:=adx.1 l e q;have:e.on<j:=by simpa [r]using p
  omega
def Td{d:jb}:∀{i:Nat},d[i]?=some false->(d.set i true).count false+1=d.count false:=by
 induction d with
 |nil=>intro i h;simp at h
 |cons x l g=>
  intro i h;cases i with
  |zero=>simp at h;subst h;simp
  |succ i=>simp at h;have:=g h;simp[List.count_cons];omega
def Q2(t:(Nat->Prop)->Act->ay->Prop)(M:yp bL=true)(U:∀j o,bL[j]?=some o->∀(D:Nat->Prop) a w,t D a w->¬D j->(∀e∈o.after,Region.binds .any e=true->D e.on)->wpOp P bL Q j (λG w'=>t (λk=>D k\/k=j) G w') a w)(K:∀(D:Nat->Prop) a w,t D a w->(∀j,j<bL.size->D j)->Q .normal a w):
 ∀(l:Nat) (d:Array Bool) (a:Act) (w:ay),d.size=bL.size->d.toList.count false<=l->t (λk=>d.getD k false=true) a w->wpAny P .any bL Q l d a w:=by
 intro l;induction l with
 |zero=>
  intro d a w q b p;have r:Region.ready .any bL d=[]:=by
   rw[List.eq_nil_iff_forall_not_mem];intro j I;obtain⟨g,-⟩:=mem_ready.1 I;have O:false∉d.toList:=acP.1 (by omega);apply O;have:j<d.size:=by
    obtain h|h:=CI j d.size
    ·exact h
    simp[Array.getElem?_eq_none h]at g
   simp[this]at g;rw[<-g];exact Array.getElem_mem_toList this
  exact⟨r,K _ _ _ p (Kl M r q)⟩
 |succ l Y=>
  intro d a w q b p;refine⟨λr=>K _ _ _ p (Kl M r q),λj I=>?_⟩;have⟨g,o,R,V⟩:=mem_ready.1 I;have F:j<d.size:=by
   obtain h|h:=CI j d.size
   ·exact h
   simp[Array.getElem?_eq_none h]at g
  have S:d.toList[j]?=some false:=by simp[F]at g⊢;exact g
  refine wpOp_mono (λG w' h=>Y _ G w' (by simpa using q) ?_ ?_) (U j o R _ a w p (by simp[F]at g⊢;exact g) V)
  ·have:=Td S;simp only[Array.toList_setIfInBounds];omega
  have e:(λk=>(d.setIfInBounds j true).getD k false=true)=λk=>d.getD k false=true\/k=j:=by
   funext k;by_cases y:k=j
   ·subst y;simp[F]
   rw[getD_set_ne false (CU y)];simp[y]
  rw[e];exact h
def My(d:(Nat->Prop)->Act->ay->Prop)(h:P.follows .mixedOrders=true)(q:yp bL=true)(p:d (λ_=>False) a w.drew)(r:∀j o,bL[j]?=some o->∀(D:Nat->Prop) a w,d D a w->¬D j->(∀e∈o.after,Region.binds .any e=true->D e.on)->wpOp P bL Q j (λl w'=>d (λk=>D k\/k=j) l w') a w)(id:∀(D:Nat->Prop) a w,d D a w->(∀j,j<bL.size->D j)->Q .normal a w):(Code.region g bL true).wp P Q a w:=by
 refine wp_region_any h (Q2 d q r id bL.size (Array.replicate bL.size false) a _ (by simp) (by simp) ?_);have e:(λk=>(Array.replicate bL.size false).getD k false=true)=λ_=>False:=by
  funext k;obtain b |b:=CI k bL.size
  ·simp[b]
  simp[b]
 rw[e];exact p
/-! ### The frame:some temporaries hold what T says,the others what they held-/
def c_(a:Act)(b:gb)(T:Nat->az):Act:={a with tmps:=b.foldl (λd k=>d.setIfInBounds k (T k)) a.tmps}
def qW(T:Nat->az)(k:Nat)(v:az):Nat->az:=λi=>if i=k then v else T i
def KC(T:Nat->az):qW T k v k=v:=by unfold qW;rw[Yd rfl]
def KD(h:i≠k):qW T k v i=T i:=by unfold qW;rw[Yb h]
theorem uv(T:Nat->az)(i:Nat):∀(ks:gb) (d:hZ),(ks.foldl (λd k=>d.setIfInBounds k (T k)) d)[i]?=if i∈ks/\i<d.size then some (T i) else d[i]?
 |[],d=>by simp
 |k::ks,d=>by
  rw[YP,uv T i ks];by_cases g:i=k
  ·subst g;by_cases l:i<d.size
   ·by_cases h:i∈ks<;>simp[l,h]
   simp[l]
  by_cases h:i∈ks
  ·simp[h,g,Array.getElem?_setIfInBounds_ne (Ne.symm g)]
  simp[h,g,Array.getElem?_setIfInBounds_ne (Ne.symm g)]
section
def iY(g:k∈ks)(d:k<a.tmps.size):(c_ a ks T).eval (.tmp k)=T k:=by simp only[Act.eval,c_,ad9,uv,g,d,and_self,Z8,acq]
def Az(d:k∉ks):(c_ a ks T).eval (.tmp k)=a.eval (.tmp k):=by simp only[Act.eval,c_,ad9,uv,d,false_and,Z4]
def NY(f:Nat):(c_ a ks T).eval (.func f)=.func (.func f) #[] #[]:=rfl
def x7(l:k∈ks)(v:az):(c_ a ks T).put (some k) v=c_ a ks (qW T k v):=by
 simp only[c_,Act.put,Act.mk.injEq,rB];apply Array.ext_getElem?;intro i;have F:(ks.foldl (λd k=>d.setIfInBounds k (T k)) a.tmps).size=a.tmps.size:=by
  generalize a.tmps=d;induction ks generalizing d with
  |nil=>rfl
  |cons x p g=>
   rw[YP];by_cases r:k∈p
   ·rw[g r];simp
   clear g l r;induction p generalizing d x with|nil=>simp|cons y t g=>rw[YP];have:=g y (d.setIfInBounds x (T x));rw[this];simp
 rw[uv];by_cases h:i=k
 ·subst h;rw[KC];by_cases q:i<a.tmps.size
  ·rw[Array.getElem?_setIfInBounds_self_of_lt (by omega)];simp[l,q]
  rw[abV (by simp;omega)];simp[q]
 rw[Array.getElem?_setIfInBounds_ne (CU h),uv,KD h]
def ND:c_ a ks (λk=>a.tmps.getD k undef)=a:=by
 cases a with
 |mk g d=>
  simp only[c_,Act.mk.injEq,rB];apply Array.ext_getElem?;intro i;rw[uv];split
  ·rename_i h;simp[h.2]
  rfl
end
def zU(b:gb)(J:(Nat->Prop)->(Nat->az)->ay->Prop)(G:P.follows .mixedOrders=true)(t:yp bL=true)(r:∀T,J (λ_=>False) T w.drew)(y:∀j o,bL[j]?=some o->∀(D:Nat->Prop) T w,J D T w->¬D j->(∀e∈o.after,Region.binds .any e=true->D e.on)->wpOp P bL Q j (λg w'=>∃d,g =c_ a b d/\J (λk=>D k\/k=j) d w') (c_ a b T) w)(l:∀(D:Nat->Prop) T w,J D T w->(∀j,j<bL.size->D j)->Q .normal (c_ a b T) w):(Code.region aa bL true).wp P Q a w:=by
 refine My (λD g w'=>∃d,g =c_ a b d/\J D d w') G t ⟨_,ND.symm,r _⟩ ?_ ?_
 ·rintro j o q D g w'⟨T,rfl,h⟩F p;exact y j o q D T w' h F p
 rintro D g w'⟨T,rfl,h⟩I;exact l D T w' h I
section
def bU{D:Nat->Prop}(g:∀e∈o.after,Region.binds .any e=true->D e.on)(i:Nat)(h:(o.after.any λe=>Region.binds .any e&&e.on==i)=true):D i:=by have⟨k,l,d⟩:=Array.any_eq_true.1 h;simp only[Zn,Zj]at d;have:=g _ (Array.getElem_mem l) d.1;rw[d.2]at this;exact this
def qi(h:bL[j]?=some o)(q:o.guard=none)(g:o.dst=some k)(r:k∈ks)(l:(execOp (c_ a ks T).eval o).run P w=.ok (.value v) w')(p:J (qW T k v) w'):wpOp P bL Q j (λt w'=>∃d,t =c_ a ks d/\J d w') (c_ a ks T) w:=by refine afS h (λF y=>?_);rw[Yd (by simp[Region.wanted,q])];unfold Oper.wp;rw[l];show F ((c_ a ks T).put o.dst v) w';rw[g];exact y _ _ ⟨_,x7 r v,p⟩
def QD(h:bL[j]?=some o)(q:o.guard=none)(g:o.dst=none)(l:(execOp (c_ a ks T).eval o).run P w=.ok .skip w')(p:J T w'):wpOp P bL Q j (λr w'=>∃d,r =c_ a ks d/\J d w') (c_ a ks T) w:=by refine afS h (λy t=>?_);rw[Yd (by simp[Region.wanted,q])];unfold Oper.wp;rw[l];show y ((c_ a ks T).put o.dst undef) w';rw[g];exact t _ _ ⟨_,rfl,p⟩
def OC(l:bL[j]?=some o)(F:o.guard=none)(f:o.dst=some k)(h:k∈ks)(r:(execOp (c_ a ks T).eval o).run P w=.ok (.enter g Y) w)(p:Calls P g Y w λe w'=>∃v,e=.returned v/\J (qW T k v) w'):wpOp P bL Q j (λq w'=>∃d,q =c_ a ks d/\J d w') (c_ a ks T) w:=by refine afS l (λG t=>?_);rw[Yd (by simp[Region.wanted,F])];unfold Oper.wp;rw[r];refine Calls.mono p ?_;rintro e w'⟨v,rfl,y⟩;show G ((c_ a ks T).put o.dst v) w';rw[f];exact t _ _ ⟨_,x7 h v,y⟩
end
end
section
variable {u:az}
def Sw(x:Operand)(i:Nat)(h:i<2)(d:o.op=Op.fieldAddr 48 x i)(g:ev x=π N):(execOp ev o).run prog w=.ok (.value (.pointer (some (η N i)))) w:=by
 match i,h with
 |0,_=>simp[execOp,d,g];go_simp
 |1,_=>simp[execOp,d,g];go_simp
def Gz(x:Operand)(d:TypeId)(l:d=30\/d=27)(g:o.op=Op.load d x)(h:ev x=.pointer (some (η N k)))(p:w.χ N k=some v):(execOp ev o).run prog w=.ok (.value v) w:=by
 obtain rfl|rfl:=l
 ·simp[execOp,g,h];go_simp
 simp[execOp,g,h];go_simp
def Qd(x:Operand)(g:o.op=Op.load 65 x)(h:ev x=π N)(b a d:az)(q:w.χ N 0=some b)(p:w.χ N 1=some a)(l:w.χ N 2=some d):(execOp ev o).run prog w=.ok (.value (.agg #[b,a,d])) w:=by simp[execOp,g,h];go_simp
def TU(x:Operand)(d:o.op=Op.move x):(execOp ev o).run prog w=.ok (.value (ev x)) w:=by simp[execOp,d]
def UA(x:Operand)(d:o.op=Op.call {callee:=.value (.func 56),args:= #[x],argTypes:= #[3]})(g:ev (.func 56)=.func (.func 56) #[] #[]):(execOp ev o).run prog w=.ok (.enter 56 #[ev x]) w:=by simp[execOp,d];go_simp
def NI(x:Operand)(g:o.op=Op.buildSlice 30 1 #[(0,x)])(d:ev x=.string s):(execOp ev o).run prog w=.ok (.value (ξ w.heap.size 1 1)) (w.alloc (.cells #[.string s] 9)):=by simp[execOp,g,d];go_simp
def Nq(x y:Operand)(d:o.op=Op.buildSlice 30 2 #[(0,x),(1,y)])(h:ev x=.string s)(g:ev y=.string s):(execOp ev o).run prog w=.ok (.value (ξ w.heap.size 2 2)) (w.alloc (.cells #[.string s,.string s] 9)):=by simp[execOp,d,h,g];go_simp
def No(x y z:Operand)(d:o.op=Op.buildSlice 30 3 #[(0,x),(1,y),(2,z)])(h:ev x=.string s)(g:ev y=.string s)(l:ev z=.string s):(execOp ev o).run prog w=.ok (.value (ξ w.heap.size 3 3)) (w.alloc (.cells #[.string s,.string s,.string s] 9)):=by simp[execOp,d,h,g,l];go_simp
def NZ(x:Operand)(d q:aA)(i:Int)(g:o.op=Op.buildSlice 27 1 #[(0,x)])(h:ev x=.agg #[.string d,.string q,ι i]):(execOp ev o).run prog w=.ok (.value (ξ w.heap.size 1 1)) (w.alloc (.cells #[.string d,.string q,ι i] 65)):=by simp[execOp,g,h];go_simp
def Ni(x y:Operand)(d q:aA)(i:Int)(g:o.op=Op.buildSlice 27 2 #[(0,x),(1,y)])(l:ev x=.agg #[.string d,.string q,ι i])(h:ev y=.agg #[.string d,.string q,ι i]):(execOp ev o).run prog w=.ok (.value (ξ w.heap.size 2 2)) (w.alloc (.cells #[.string d,.string q,ι i,.string d,.string q,ι i] 65)):=by simp[execOp,g,l,h];go_simp
def NS(x y z:Operand)(d q:aA)(i:Int)(g:o.op=Op.buildSlice 27 3 #[(0,x),(1,y),(2,z)])(l:ev x=.agg #[.string d,.string q,ι i])(h:ev y=.agg #[.string d,.string q,ι i])(p:ev z=.agg #[.string d,.string q,ι i]):(execOp ev o).run prog w=.ok (.value (ξ w.heap.size 3 3)) (w.alloc (.cells #[.string d,.string q,ι i,.string d,.string q,ι i,.string d,.string q,ι i] 65)):=by simp[execOp,g,l,h,p];go_simp
def RJ(d:o.op=Op.alloc 48):(execOp ev o).run prog w=.ok (.value (π w.heap.size)) (w.alloc (.cells #[ς,ς,ι 0,ι 0] 48)):=by simp[execOp,d];go_simp
def Tk(x y:Operand)(q:o.op=Op.build 48 #[(0,x),(1,y)])(g h:fY)(l a p d:Nat)(t:ev x=.slice g l a)(r:ev y=.slice h p d):(execOp ev o).run prog w=.ok (.value (.agg #[.slice g l a,.slice h p d,ι 0,ι 0])) w:=by simp[execOp,q,t,r];go_simp
def SD(x y:Operand)(F:o.op=Op.store 48 x y)(I:ev x=π N)(c b l h:az)(p q:fY)(r a t g:Nat)(G:ev y=.agg #[.slice p r a,.slice q t g,ι 0,ι 0])(d:aF w N 48 [c,b,l,h]):(execOp ev o).run prog w=.ok .skip ((((w.ψ N 0 (.slice p r a)).ψ N 1 (.slice q t g)).ψ N 2 (ι 0)).ψ N 3 (ι 0)):=by have:w.χ N 0=some c:=d.cell 0 (by simp);have:w.χ N 1=some b:=d.cell 1 (by simp);have:w.χ N 2=some l:=d.cell 2 (by simp);have:w.χ N 3=some h:=d.cell 3 (by simp);have:=d.frozen 0;have:=d.frozen 1;have:=d.frozen 2;have:=d.frozen 3;simp[execOp,F,I,G];go_simp
end
structure Mv(X:ay->Prop)(H n:Nat)(W Z:ay):Prop where
 x:X W->X Z
 size:W.heap.size<=Z.heap.size
 rs:∀g vs,aF W g 9 vs->(∀j u,vs[j]?=some u->u=lF n j)->aF Z g 9 vs
 rf:∀g vs,aF W g 65 vs->(∀j u,vs[j]?=some u->u=eZ n j)->aF Z g 65 vs
 rr:∀g vs,aF W g 48 vs->aF Z g 48 vs
 os:∀v k,W.ownsRow H 9 1 v k (jg n k)->Z.ownsRow H 9 1 v k (jg n k)
 of:∀v k,W.ownsRow H 65 3 v k (jC n k)->Z.ownsRow H 65 3 v k (jC n k)
structure jy(X:ay->Prop)(H L n N:Nat)(vc:az)(nc:Nat)(vr:az)(nf:Nat):Prop where
 aD:∀W Z,X W->μ W Z->X Z
 kV:∀W Z,X W->dD H 9 (lF n) W Z->X Z
 kW:∀W Z,X W->dD H 65 (eZ n) W Z->X Z
 df:∀W Z b vs,X W->L<=b->aF W b 48 vs->eG (λk=>k=b) W Z->X Z
 fw:∀W,X W->∃x y,aF W N 48 [vc,vr,x,y]
 jJ:∀W,X W->aF W (N+1) 65 [.string ⟨kept.toArray⟩,.string ⟨#[]⟩,ι n]
 cm:∀W,X W->W.ownsRow H 9 1 vc nc (jg n nc)
 fi:∀W,X W->W.ownsRow H 65 3 vr nf (jC n nf)
 hH:∀W,X W->H<=W.heap.size
section
def Mv.aD(c:jy X H L n N vc nc vr nf)(d:μ W Z):Mv X H n W Z:=⟨λh=>c.aD W Z h d,d.size,λ_ _ h _=>h.aD d,λ_ _ h _=>h.aD d,λ_ _ h=>h.aD d,λ_ _ h=>bI h (λk g=>d.block k (h.lt k g).2),λ_ _ h=>bI h (λk g=>d.block k (h.lt k g).2)⟩
def Mv.kV(c:jy X H L n N vc nc vr nf)(d:dD H 9 (lF n) W Z):Mv X H n W Z:=⟨λh=>c.kV W Z h d,d.size,λ_ _ h g=>d.kG h g,λ_ _ h _=>d.row h (by decide),λ_ _ h=>d.row h (by decide),λ_ _ h=>d.bG h,λ_ _ h=>d.dI h (by decide)⟩
def Mv.kW(c:jy X H L n N vc nc vr nf)(d:dD H 65 (eZ n) W Z):Mv X H n W Z:=⟨λh=>c.kW W Z h d,d.size,λ_ _ h _=>d.row h (by decide),λ_ _ h g=>d.kG h g,λ_ _ h=>d.row h (by decide),λ_ _ h=>d.dI h (by decide),λ_ _ h=>d.bG h⟩
def P4(n m:Nat):∀j u,(jg n m)[j]?=some u->u=lF n j:=λj u h=>by unfold jg at h;obtain⟨d,rfl⟩:=Yl.1 h;simp
def Qt(n m:Nat):∀j u,(jC n m)[j]?=some u->u=eZ n j:=λj u h=>by unfold jC at h;obtain⟨d,rfl⟩:=Yl.1 h;simp
def tJ(H L n N m:Nat)(h:az)(a:Nat)(i:az)(e:Nat)(c:Nat)(x:az)(W:ay):Prop:=
 match c with
 |0=>x=.pointer (some ⟨N,0,none⟩)|1=>x=h
 |2=>x=.int .i64 n
 |3=>x=.string ⟨(kM n).toArray⟩
 |4=>∃d,x=.slice (some ⟨d,0,none⟩) m m/\aF W d 9 (jg n m)|5=>W.ownsRow H 9 1 x (a+m) (jg n (a+m))|6=>x=.pointer (some ⟨N,1,none⟩)|7=>x=i
 |8=>x=.agg #[.string ⟨kept.toArray⟩,.string ⟨#[]⟩,.int .i64 n]
 |9=>∃d,x=.slice (some ⟨d,0,none⟩) m m/\aF W d 65 (jC n m)|10=>W.ownsRow H 65 3 x (e+m) (jC n (e+m))|11=>∃g f,x=.agg #[g,f,.int .i64 0,.int .i64 0]/\W.ownsRow H 9 1 g (a+m) (jg n (a+m))/\W.ownsRow H 65 3 f (e+m) (jC n (e+m))|12=>∃b,x=.pointer (some ⟨b,0,none⟩)/\L<=b/\aF W b 48 [.slice none 0 0,.slice none 0 0,.int .i64 0,.int .i64 0]
 |_=>False
def tJ.mv(h:tJ H L n N m vc nc vr nf c q W)(d:Mv X H n W Z):tJ H L n N m vc nc vr nf c q Z:=by
 unfold tJ at*;split at h
 ·exact h
 ·exact h
 ·exact h
 ·exact h
 ·have⟨p,l,g⟩:=h;exact⟨p,l,d.rs _ _ g (P4 n m)⟩
 ·exact d.os _ _ h
 ·exact h
 ·exact h
 ·exact h
 ·have⟨p,l,g⟩:=h;exact⟨p,l,d.rf _ _ g (Qt n m)⟩
 ·exact d.of _ _ h
 ·have⟨e,a,l,g,x⟩:=h;exact⟨e,a,l,d.os _ _ g,d.of _ _ x⟩
 ·have⟨b,l,g,x⟩:=h;exact⟨b,l,g,d.rr _ _ x⟩
 exact h.elim
end
structure Gr(X:ay->Prop)(H L n N m:Nat)(vc:az)(nc:Nat)(vr:az)(nf:Nat)(cd tm:gb)(D:Nat->Prop)(T:Nat->az)(W:ay):Prop where
 x:X W
 sz:L<=W.heap.size
 iU:∀i c k,cd[i]?=some c->tm[i]?=some k->D i->tJ H L n N m vc nc vr nf c (T k) W
def Ws(X:ay->Prop)(H L n m:Nat)(c e:Nat)(f:Nat)(T:Nat->az)(W:ay):Prop:=∃b d a,T f= π b/\L<=b/\X W/\aF W b 48 [d,a,ι 0,ι 0]/\W.ownsRow H 9 1 d (c+m) (jg n (c+m))/\W.ownsRow H 65 3 a (e+m) (jC n (e+m))
def fB(X:ay->Prop)(H L n N m:Nat)(c:az)(a:Nat)(f:az)(b:Nat)(d e:gb)(z g:Nat)(D:Nat->Prop)(T:Nat->az)(W:ay):Prop:=(¬D z/\Gr X H L n N m c a f b d e D T W)\/((∀j,j<=z->D j)/\Ws X H L n m a b g T W)
section
variable {D:Nat->Prop}{x:az}
def Gr.put(h:Gr X H L n N m vc nc vr nf cd tm D T W)(l:Mv X H n W Z)(M:cd[j]?=some c)(q:tm[j]?=some k)(t:tm.Nodup)(y:tJ H L n N m vc nc vr nf c x Z):Gr X H L n N m vc nc vr nf cd tm (λi=>D i\/i=j) (qW T k x) Z:=by
 refine⟨l.x h.x,Ye h.sz l.size,λi G r p d I=>?_⟩;by_cases g:i=j
 ·subst g;rw[M]at p;rw[q]at d;cases p;cases d;rw[KC];exact y
 have F:r ≠k:=λe=>g (by
  subst e;have⟨S,K⟩:=Yl.1 d;have⟨R,O⟩:=Yl.1 q;exact(List.getElem_inj t).1 (K.trans O.symm))
 rw[KD F];exact(h.iU i G r p d (I.resolve_right g)).mv l
def fB.step(l:¬D z)(t:j≠z)(h:Gr X H L n N m vc nc vr nf cd tm D T W)(p:Mv X H n W Z)(r:cd[j]?=some c)(q:tm[j]?=some k)(d:tm.Nodup)(g:tJ H L n N m vc nc vr nf c x Z):fB X H L n N m vc nc vr nf cd tm z kb (λi=>D i\/i=j) (qW T k x) Z:=.inl ⟨λe=>e.elim l (λe=>t e.symm),h.put p r q d g⟩
def Mv.refl(X:ay->Prop)(H n:Nat)(W:ay):Mv X H n W W:=⟨id,X0 _,λ_ _ h _=>h,λ_ _ h _=>h,λ_ _ h=>h,λ_ _ h=>h,λ_ _ h=>h⟩
end
/-! ### The operations-/
section
variable {D:Nat->Prop}
structure kP(bL:kt)(o:Oper)(a:Act)(ks tm cd:gb)(j c k z:Nat):Prop where
 ho:bL[j]?=some o
 hg:o.guard=none
 hd:o.dst=some k
 hk:k∈ks
 hc:cd[j]?=some c
 ht:tm[j]?=some k
 dA:tm.Nodup
 hz:j≠z
def ur{f:Nat}(d:kP bL o a ks tm cd j (if f=0 then 0 else 6) k z)(g:f<2)(q:o.op=Op.fieldAddr 48 (.tmp 3) f)(p:3∉ks)(t:a.eval (.tmp 3)=π N)(r:¬D z)(h:Gr X H L n N m vc nc vr nf cd tm D T W):
 wpOp prog bL Q j (λy w'=>∃l,y =c_ a ks l/\fB X H L n N m vc nc vr nf cd tm z kb (λk=>D k\/k=j) l w') (c_ a ks T) W:=by
 refine qi d.ho d.hg d.hd d.hk (Sw (.tmp 3) f g q (by rw[Az p,t])) (fB.step r d.hz h (Mv.refl _ _ _ _) d.hc d.ht d.dA ?_)
 match f,g with
 |0,_=>rfl|1,_=>rfl
def u_(d:kP bL o a ks tm cd j 2 k z)(l:o.op=Op.move (.tmp 4))(r:4∉ks)(q:a.eval (.tmp 4)=ι n)(p:¬D z)(h:Gr X H L n N m vc nc vr nf cd tm D T W):
 wpOp prog bL Q j (λt w'=>∃g,t =c_ a ks g/\fB X H L n N m vc nc vr nf cd tm z kb (λk=>D k\/k=j) g w') (c_ a ks T) W:=by refine qi d.ho d.hg d.hd d.hk (TU (.tmp 4) l) (fB.step p d.hz h (Mv.refl _ _ _ _) d.hc d.ht d.dA ?_);rw[Az r,q];rfl
def A_(c:jy X H L n N vc nc vr nf){i q:Nat}(d:kP bL o a ks tm cd j 1 k z)(r:o.op=Op.load 30 (.tmp q))(t:q∈ks)(M:q<a.tmps.size)(K:cd[i]?=some 0)(I:tm[i]?=some q)(l:D i)(O:¬D z)(h:Gr X H L n N m vc nc vr nf cd tm D T W):
 wpOp prog bL Q j (λF w'=>∃g,F =c_ a ks g/\fB X H L n N m vc nc vr nf cd tm z kb (λk=>D k\/k=j) g w') (c_ a ks T) W:=by have p:T q=π N:=h.iU i 0 q K I l;have⟨x,y,G⟩:=c.fw W h.x;exact qi d.ho d.hg d.hd d.hk (Gz (.tmp q) _ (.inl rfl) r (by rw[iY t M,p]) (G.cell? (i:=0) rfl)) (fB.step O d.hz h (Mv.refl _ _ _ _) d.hc d.ht d.dA rfl)
def A9(c:jy X H L n N vc nc vr nf){i q:Nat}(d:kP bL o a ks tm cd j 7 k z)(r:o.op=Op.load 27 (.tmp q))(t:q∈ks)(M:q<a.tmps.size)(K:cd[i]?=some 6)(I:tm[i]?=some q)(l:D i)(O:¬D z)(h:Gr X H L n N m vc nc vr nf cd tm D T W):
 wpOp prog bL Q j (λF w'=>∃g,F =c_ a ks g/\fB X H L n N m vc nc vr nf cd tm z kb (λk=>D k\/k=j) g w') (c_ a ks T) W:=by have p:T q=.pointer (some (η N 1)):=h.iU i 6 q K I l;have⟨x,y,G⟩:=c.fw W h.x;exact qi d.ho d.hg d.hd d.hk (Gz (.tmp q) _ (.inr rfl) r (by rw[iY t M,p]) (G.cell? (i:=1) rfl)) (fB.step O d.hz h (Mv.refl _ _ _ _) d.hc d.ht d.dA rfl)
def uo(c:jy X H L n N vc nc vr nf)(d:kP bL o a ks tm cd j 8 k z)(p:o.op=Op.load 65 (.tmp 5))(y:5∉ks)(r:a.eval (.tmp 5)=π (N+1))(q:¬D z)(h:Gr X H L n N m vc nc vr nf cd tm D T W):
 wpOp prog bL Q j (λt w'=>∃l,t =c_ a ks l/\fB X H L n N m vc nc vr nf cd tm z kb (λk=>D k\/k=j) l w') (c_ a ks T) W:=by have g:=c.jJ W h.x;exact qi d.ho d.hg d.hd d.hk (Qd (.tmp 5) p (by rw[Az y,r]) _ _ _ (g.cell? (i:=0) rfl) (g.cell? (i:=1) rfl) (g.cell? (i:=2) rfl)) (fB.step q d.hz h (Mv.refl _ _ _ _) d.hc d.ht d.dA rfl)
def uH(c:jy X H L n N vc nc vr nf)(R:n<2){i q:Nat}(d:kP bL o a ks tm cd j 3 k z)(y:o.op=Op.call {callee:=.value (.func 56),args:= #[.tmp q],argTypes:= #[3]})(F:q∈ks)(M:q<a.tmps.size)(K:cd[i]?=some 2)(I:tm[i]?=some q)(p:D i)(O:¬D z)(h:Gr X H L n N m vc nc vr nf cd tm D T W):
 wpOp prog bL Q j (λG w'=>∃l,G =c_ a ks l/\fB X H L n N m vc nc vr nf cd tm z kb (λk=>D k\/k=j) l w') (c_ a ks T) W:=by have r:T q=ι n:=h.iU i 2 q K I p;have g:=UA (w:=W) (.tmp q) y (NY (a:=a) (ks:=ks) (T:=T) 56);rw[iY F M,r]at g;refine OC d.ho d.hg d.hd d.hk g ((BJ n (by omega) W).mono ?_);rintro e w'⟨rfl,t⟩;exact⟨_,rfl,fB.step O d.hz h (Mv.aD c t) d.hc d.ht d.dA rfl⟩
def BZ(c:jy X H L n N vc nc vr nf)(d:kP bL o a ks tm cd j 12 k z)(l:o.op=Op.alloc 48)(p:¬D z)(h:Gr X H L n N m vc nc vr nf cd tm D T W):
 wpOp prog bL Q j (λq w'=>∃g,q =c_ a ks g/\fB X H L n N m vc nc vr nf cd tm z kb (λk=>D k\/k=j) g w') (c_ a ks T) W:=
 qi d.ho d.hg d.hd d.hk (RJ l) (fB.step p d.hz h (Mv.aD c (ak W _)) d.hc d.ht d.dA ⟨_,rfl,h.sz,aF.bq W _ [ς,ς,ι 0,ι 0]⟩)
def AE(c:jy X H L n N vc nc vr nf)(d:kP bL o a ks tm cd j 4 k z)(l:(execOp (c_ a ks T).eval o).run prog W=.ok (.value (ξ W.heap.size m m)) (W.alloc (.cells (jg n m).toArray 9)))(p:¬D z)(h:Gr X H L n N m vc nc vr nf cd tm D T W):
 wpOp prog bL Q j (λq w'=>∃g,q =c_ a ks g/\fB X H L n N m vc nc vr nf cd tm z kb (λk=>D k\/k=j) g w') (c_ a ks T) W:=
 qi d.ho d.hg d.hd d.hk l (fB.step p d.hz h (Mv.aD c (ak W _)) d.hc d.ht d.dA ⟨_,rfl,aF.bq W _ _⟩)
def Ak(c:jy X H L n N vc nc vr nf)(d:kP bL o a ks tm cd j 9 k z)(l:(execOp (c_ a ks T).eval o).run prog W=.ok (.value (ξ W.heap.size m m)) (W.alloc (.cells (jC n m).toArray 65)))(p:¬D z)(h:Gr X H L n N m vc nc vr nf cd tm D T W):
 wpOp prog bL Q j (λq w'=>∃g,q =c_ a ks g/\fB X H L n N m vc nc vr nf cd tm z kb (λk=>D k\/k=j) g w') (c_ a ks T) W:=
 qi d.ho d.hg d.hd d.hk l (fB.step p d.hz h (Mv.aD c (ak W _)) d.hc d.ht d.dA ⟨_,rfl,aF.bq W _ _⟩)
def Nf(c:jy X H L n N vc nc vr nf){i0 q0:Nat}(r:kP bL o a ks tm cd j 4 k z)(G:o.op=Op.buildSlice 30 1 #[(0,.tmp q0)])(F:q0∈ks)(g:q0<a.tmps.size)(p:cd[i0]?=some 3)(y:tm[i0]?=some q0)(q:D i0)(I:¬D z)(h:Gr X H L n N 1 vc nc vr nf cd tm D T W):
 wpOp prog bL Q j (λt w'=>∃d,t =c_ a ks d/\fB X H L n N 1 vc nc vr nf cd tm z kb (λk=>D k\/k=j) d w') (c_ a ks T) W:=by have l:T q0=σ (kM n):=h.iU i0 3 q0 p y q;exact AE c r (NI (.tmp q0) G (by rw[iY F g,l])) I h
def Nw(c:jy X H L n N vc nc vr nf){i0 q0 i1 q1:Nat}(y:kP bL o a ks tm cd j 4 k z)(F:o.op=Op.buildSlice 30 2 #[(0,.tmp q0),(1,.tmp q1)])(S:q0∈ks)(I:q0<a.tmps.size)(r:cd[i0]?=some 3)(O:tm[i0]?=some q0)(t:D i0)(l:q1∈ks)(p:q1<a.tmps.size)(U:cd[i1]?=some 3)(q:tm[i1]?=some q1)(R:D i1)(G:¬D z)(h:Gr X H L n N 2 vc nc vr nf cd tm D T W):
 wpOp prog bL Q j (λM w'=>∃d,M =c_ a ks d/\fB X H L n N 2 vc nc vr nf cd tm z kb (λk=>D k\/k=j) d w') (c_ a ks T) W:=by have g:T q0=σ (kM n):=h.iU i0 3 q0 r O t;have K:T q1=σ (kM n):=h.iU i1 3 q1 U q R;exact AE c y (Nq (.tmp q0) (.tmp q1) F (by rw[iY S I,g]) (by rw[iY l p,K])) G h
def NO(c:jy X H L n N vc nc vr nf){i0 q0 i1 q1 i2 q2:Nat}(y:kP bL o a ks tm cd j 4 k z)(O:o.op=Op.buildSlice 30 3 #[(0,.tmp q0),(1,.tmp q1),(2,.tmp q2)])(e:q0∈ks)(S:q0<a.tmps.size)(r:cd[i0]?=some 3)(Y:tm[i0]?=some q0)(t:D i0)(l:q1∈ks)(p:q1<a.tmps.size)(f:cd[i1]?=some 3)(q:tm[i1]?=some q1)(i:D i1)(b:q2∈ks)(K:q2<a.tmps.size)(G:cd[i2]?=some 3)(M:tm[i2]?=some q2)(F:D i2)(R:¬D z)(h:Gr X H L n N 3 vc nc vr nf cd tm D T W):
 wpOp prog bL Q j (λV w'=>∃d,V =c_ a ks d/\fB X H L n N 3 vc nc vr nf cd tm z kb (λk=>D k\/k=j) d w') (c_ a ks T) W:=by have g:T q0=σ (kM n):=h.iU i0 3 q0 r Y t;have U:T q1=σ (kM n):=h.iU i1 3 q1 f q i;have I:T q2=σ (kM n):=h.iU i2 3 q2 G M F;exact AE c y (No (.tmp q0) (.tmp q1) (.tmp q2) O (by rw[iY e S,g]) (by rw[iY l p,U]) (by rw[iY b K,I])) R h
def Oc(c:jy X H L n N vc nc vr nf){i0 q0:Nat}(r:kP bL o a ks tm cd j 9 k z)(G:o.op=Op.buildSlice 27 1 #[(0,.tmp q0)])(F:q0∈ks)(g:q0<a.tmps.size)(p:cd[i0]?=some 8)(y:tm[i0]?=some q0)(q:D i0)(I:¬D z)(h:Gr X H L n N 1 vc nc vr nf cd tm D T W):
 wpOp prog bL Q j (λt w'=>∃d,t =c_ a ks d/\fB X H L n N 1 vc nc vr nf cd tm z kb (λk=>D k\/k=j) d w') (c_ a ks T) W:=by have l:T q0=Value.agg #[σ kept,ε,ι n]:=h.iU i0 8 q0 p y q;exact Ak c r (NZ (.tmp q0) _ _ _ G (by rw[iY F g,l])) I h
def Nu(c:jy X H L n N vc nc vr nf){i0 q0 i1 q1:Nat}(y:kP bL o a ks tm cd j 9 k z)(F:o.op=Op.buildSlice 27 2 #[(0,.tmp q0),(1,.tmp q1)])(S:q0∈ks)(I:q0<a.tmps.size)(r:cd[i0]?=some 8)(O:tm[i0]?=some q0)(t:D i0)(l:q1∈ks)(p:q1<a.tmps.size)(U:cd[i1]?=some 8)(q:tm[i1]?=some q1)(R:D i1)(G:¬D z)(h:Gr X H L n N 2 vc nc vr nf cd tm D T W):
 wpOp prog bL Q j (λM w'=>∃d,M =c_ a ks d/\fB X H L n N 2 vc nc vr nf cd tm z kb (λk=>D k\/k=j) d w') (c_ a ks T) W:=by have g:T q0=Value.agg #[σ kept,ε,ι n]:=h.iU i0 8 q0 r O t;have K:T q1=Value.agg #[σ kept,ε,ι n]:=h.iU i1 8 q1 U q R;exact Ak c y (Ni (.tmp q0) (.tmp q1) _ _ _ F (by rw[iY S I,g]) (by rw[iY l p,K])) G h
def Nt(c:jy X H L n N vc nc vr nf){i0 q0 i1 q1 i2 q2:Nat}(y:kP bL o a ks tm cd j 9 k z)(O:o.op=Op.buildSlice 27 3 #[(0,.tmp q0),(1,.tmp q1),(2,.tmp q2)])(e:q0∈ks)(S:q0<a.tmps.size)(r:cd[i0]?=some 8)(Y:tm[i0]?=some q0)(t:D i0)(l:q1∈ks)(p:q1<a.tmps.size)(f:cd[i1]?=some 8)(q:tm[i1]?=some q1)(i:D i1)(b:q2∈ks)(K:q2<a.tmps.size)(G:cd[i2]?=some 8)(M:tm[i2]?=some q2)(F:D i2)(R:¬D z)(h:Gr X H L n N 3 vc nc vr nf cd tm D T W):
 wpOp prog bL Q j (λV w'=>∃d,V =c_ a ks d/\fB X H L n N 3 vc nc vr nf cd tm z kb (λk=>D k\/k=j) d w') (c_ a ks T) W:=by have g:T q0=Value.agg #[σ kept,ε,ι n]:=h.iU i0 8 q0 r Y t;have U:T q1=Value.agg #[σ kept,ε,ι n]:=h.iU i1 8 q1 f q i;have I:T q2=Value.agg #[σ kept,ε,ι n]:=h.iU i2 8 q2 G M F;exact Ak c y (NS (.tmp q0) (.tmp q1) (.tmp q2) _ _ _ O (by rw[iY e S,g]) (by rw[iY l p,U]) (by rw[iY b K,I])) R h
def PA(n k m:Nat):(List.range (m*1)).map (λj=>lF n (k*1+j))=jg n m:=by unfold jg;apply E1;intro j _;rfl
def Vm(n k j:Nat):eZ n (k*3+j)=eZ n j:=by unfold eZ;rw[show (k*3+j) % 3=j % 3 by omega]
def Oo(n k m:Nat):(List.range (m*3)).map (λj=>eZ n (k*3+j))=jC n m:=by unfold jC;apply E1;intro j _;exact Vm n k j
def Ag(c:jy X H L n N vc nc vr nf)(E:nc+m<=16777216){i q i' q':Nat}(d:kP bL o a ks tm cd j 5 k z)(C:o.op=Op.call {callee:=.builtin .append,args:= #[.tmp q,.tmp q'],argTypes:= #[30,30]})(b:q∈ks)(M:q<a.tmps.size)(e:cd[i]?=some 1)(A:tm[i]?=some q)(U:D i)(O:q' ∈ks)(G:q' <a.tmps.size)(I:cd[i']?=some 4)(R:tm[i']?=some q')(y:D i')(B:¬D z)(h:Gr X H L n N m vc nc vr nf cd tm D T W):
 wpOp prog bL Q j (λt w'=>∃l,t =c_ a ks l/\fB X H L n N m vc nc vr nf cd tm z kb (λk=>D k\/k=j) l w') (c_ a ks T) W:=by have Y:T q=vc:=h.iU i 1 q e A U;obtain⟨g,h1,p⟩:∃g,T q' =ξ g m m/\aF W g 9 (jg n m):=h.iU i' 4 q' I R y;have⟨v,w,u,F,r⟩:=Y1 Tryz.kZ;refine afS d.ho (λJ s=>?_);refine D8 (Bn:=H) (f:=lF n) d.hg (.tmp q) (.tmp q') 30 C H 9 v _ 1 16 YU w u F r rfl (by decide) vc nc (by rw[iY b M,Y]) (c.cm W h.x) ax (η g 0) m m (by rw[iY O G,h1]) (Jv p (PA n nc m)) (U9 n) (by unfold maxLen;omega) (by omega) (c.hH W h.x) ?_;intro V w' S K;rw[d.hd];exact s _ _ ⟨_,x7 d.hk V,fB.step B d.hz h (Mv.kV c K) d.hc d.ht d.dA S⟩
def z_(c:jy X H L n N vc nc vr nf)(E:nf+m<=16777216){i q i' q':Nat}(d:kP bL o a ks tm cd j 10 k z)(C:o.op=Op.call {callee:=.builtin .append,args:= #[.tmp q,.tmp q'],argTypes:= #[27,27]})(b:q∈ks)(M:q<a.tmps.size)(e:cd[i]?=some 7)(A:tm[i]?=some q)(U:D i)(O:q' ∈ks)(G:q' <a.tmps.size)(I:cd[i']?=some 9)(R:tm[i']?=some q')(y:D i')(B:¬D z)(h:Gr X H L n N m vc nc vr nf cd tm D T W):
 wpOp prog bL Q j (λt w'=>∃l,t =c_ a ks l/\fB X H L n N m vc nc vr nf cd tm z kb (λk=>D k\/k=j) l w') (c_ a ks T) W:=by have Y:T q=vr:=h.iU i 7 q e A U;obtain⟨g,h1,p⟩:∃g,T q' =ξ g m m/\aF W g 65 (jC n m):=h.iU i' 9 q' I R y;have⟨v,w,u,F,r⟩:=Y1 Tryz.AM;refine afS d.ho (λJ s=>?_);refine D8 (Bn:=H) (f:=eZ n) d.hg (.tmp q) (.tmp q') 27 C H 65 v _ 3 40 acU w u F r rfl (by decide) vr nf (by rw[iY b M,Y]) (c.fi W h.x) ax (η g 0) m m (by rw[iY O G,h1]) (Jv p (Oo n nf m)) (T_ n) (by unfold maxLen;omega) (by omega) (c.hH W h.x) ?_;intro V w' S K;rw[d.hd];exact s _ _ ⟨_,x7 d.hk V,fB.step B d.hz h (Mv.kW c K) d.hc d.ht d.dA S⟩
def BD(s:0<m){i q i' q':Nat}(d:kP bL o a ks tm cd j 11 k z)(M:o.op=Op.build 48 #[(0,.tmp q),(1,.tmp q')])(S:q∈ks)(K:q<a.tmps.size)(I:cd[i]?=some 5)(G:tm[i]?=some q)(F:D i)(R:q' ∈ks)(aa:q' <a.tmps.size)(y:cd[i']?=some 10)(V:tm[i']?=some q')(Y:D i')(O:¬D z)(h:Gr X H L n N m vc nc vr nf cd tm D T W):
 wpOp prog bL Q j (λU w'=>∃p,U =c_ a ks p/\fB X H L n N m vc nc vr nf cd tm z kb (λk=>D k\/k=j) p w') (c_ a ks T) W:=by have g:W.ownsRow H 9 1 (T q) (nc+m) (jg n (nc+m)):=h.iU i 5 q I G F;have r:W.ownsRow H 65 3 (T q') (nf+m) (jC n (nf+m)):=h.iU i' 10 q' y V Y;obtain⟨f,c,l,-,-⟩:=dv g (by omega);obtain⟨b,e,t,-,-⟩:=dv r (by omega);exact qi d.ho d.hg d.hd d.hk (Tk (.tmp q) (.tmp q') M _ _ _ _ _ _ (by rw[iY S K];exact l) (by rw[iY R aa];exact t)) (fB.step O d.hz h (Mv.refl _ _ _ _) d.hc d.ht d.dA ⟨_,_,rfl,l▸g,t▸r⟩)
def BS(c:jy X H L n N vc nc vr nf)(hm:0<m){i q i' q':Nat}(E:bL[z]?=some o)(w:o.guard=none)(u:o.dst=none)(B:o.op=Op.store 48 (.tmp q) (.tmp q'))(A:q∈ks)(Z:q<a.tmps.size)(ag:cd[i]?=some 12)(J:tm[i]?=some q)(C:D i)(ab:q' ∈ks)(U:q' <a.tmps.size)(V:cd[i']?=some 11)(ac:tm[i']?=some q')(R:D i')(P:∀i,i<z->D i)(h:Gr X H L n N m vc nc vr nf cd tm D T W):
 wpOp prog bL Q z (λO w'=>∃F,O =c_ a ks F/\fB X H L n N m vc nc vr nf cd tm z q (λk=>D k\/k=z) F w') (c_ a ks T) W:=by
 obtain⟨b,G,t,d⟩:∃b,T q=π b/\L<=b/\aF W b 48 [ς,ς,ι 0,ι 0]:=h.iU i 12 q ag J C;obtain⟨j,f,g1,l,p⟩:∃j f,T q' =.agg #[j,f,ι 0,ι 0]/\W.ownsRow H 9 1 j (nc+m) (jg n (nc+m))/\W.ownsRow H 65 3 f (nf+m) (jC n (nf+m)):=h.iU i' 11 q' V ac R;obtain⟨p1,c1,e1,-,-⟩:=dv l (by omega);obtain⟨p2,c2,S,-,-⟩:=dv p (by omega);subst e1;subst S;have y:∀(r:TypeId) (s k:Nat) (v:az) (K:f'),W.ownsRow H r s v k K->r≠48->some b≠v.ownBlock:=λr s k v K Y M e=>by have⟨ai,fz,I⟩:=dZ Y b e.symm;unfold aF at d;rw[d]at I;cases I;exact M rfl
 refine QD E w u (SD (.tmp q) (.tmp q') B (by rw[iY A Z,G]) _ _ _ _ _ _ _ _ _ _ (by rw[iY ab U,g1]) d) (.inr ⟨λi hi=>by by_cases e:i=z;exact .inr e;exact .inl (P i (by omega)),b,_,_,G,t,?_,(((d.set 0 _).set 1 _).set 2 _).set 3 _,?_,?_⟩)
 ·exact c.df W _ b _ h.x t d ((((eG.refl (λk=>k=b) W).set rfl _ _).set rfl _ _).set rfl _ _|>.set rfl _ _)
 ·exact bI l (λk g=>((((eG.refl (λk=>k=b) W).set rfl _ _).set rfl _ _).set rfl _ _|>.set rfl _ _).block k (l.lt k g).2 (λe=>y _ _ _ _ _ l (by decide) (by rw[<-e];exact g.symm)))
 exact bI p (λk g=>((((eG.refl (λk=>k=b) W).set rfl _ _).set rfl _ _).set rfl _ _|>.set rfl _ _).block k (p.lt k g).2 (λe=>y _ _ _ _ _ p (by decide) (by rw[<-e];exact g.symm)))
end
def Io{B e s:Nat}(h:W.ownsRow B e s v n d)(q:W.ownsRow B e s v n t):d=t:=by
 obtain⟨l,y⟩|⟨b,a,i,l,y,U,c,f,j,R⟩:=h.2
 ·obtain⟨g,p⟩|⟨O,M,Y,g,p,r,S,V,K,F⟩:=q.2
  ·have I:=h.1;have G:=q.1;subst y;simp only[L1,Y4]at I G;rw[I,G]
  rw[l]at g;cases g
 obtain⟨g,p⟩|⟨O,M,Y,g,p,r,S,V,K,F⟩:=q.2
 ·rw[l]at g;cases g
 rw[l]at g;cases g;rw[U]at r;cases r;rw[<-R,<-F]
section
variable {E:Nat->Nat}
def eG.yQ(F:eG (λk=>k=b) W Z){e:TypeId}(p:aF W b e d)(h:W.ownsRow aa g ah v k t)(y:g≠e):Z.ownsRow aa g ah v k t:=bI h (λq l=>F.block q (h.lt q l).2 (λG=>by subst G;have⟨I,K,r⟩:=dZ h q l;unfold aF at p;rw[p]at r;cases r;exact y rfl))
def eN.rE(h:eN W g aa i vc nc vr nf)(e:eG (λk=>k=b) W Z)(l:aF W b 48 d):eN Z g aa i vc nc vr nf:=⟨e.yQ l h.cm (by decide),e.yQ l h.fi (by decide),h.lc,h.lf,h.hc,h.hf⟩
structure mH(bb L n:Nat)(vres vgr:az)(W:ay):Prop where
 gs:∃gs,W.ownsRow (bb+1) 54 1 vgr n gs/\∀i g ci,i<n->gs[i]?=some (ξ g 3 ci)->g<L
 lr:∀k,vres.ownBlock=some k->k<L
def mH.start(h:eU W bb E (n+1) n vres vgr):mH bb W.heap.size n vres vgr W:=by have⟨K,q,_⟩:=h.cS;have⟨r,y,l⟩:=h.gr;refine⟨⟨r,y,λi I a F g=>?_⟩,λk p=>(q.lt k p).2⟩;have⟨O,G,M,d,R,t,_⟩:=l i F;rw[g]at d;cases d;exact t.lt
def mH.map(h:mH bb L n vres vgr W)(g:∀d,W.ownsRow (bb+1) 54 1 vgr n d->Z.ownsRow (bb+1) 54 1 vgr n d):mH bb L n vres vgr Z:=by have⟨d,p,l⟩:=h.gs;exact⟨⟨d,g d p,l⟩,h.lr⟩
def eU.rE(h:eU W bb E (n+1) n vres vgr)(F:mH bb L n vres vgr W)(u:L<=b)(l:aF W b 48 d)(g:eG (λk=>k=b) W Z):eU Z bb E (n+1) n vres vgr:=by
 have⟨f,I,S⟩:=h.cS;have⟨gs,y,U⟩:=h.gr;have⟨v,M,V⟩:=F.gs;have Y:=Io y M;subst Y;have O:bb≠b:=λe=>by have t:=h.row;subst e;unfold aF at l t;rw[l]at t;cases t
 refine⟨g.row h.row O,⟨f,bI I (λk r=>g.block k (I.lt k r).2 (λe=>?_)),λi p=>(S i p).map (λ_ _ _ _ q=>q.rE g l)⟩,⟨gs,g.yQ l y (by decide),λi p=>?_⟩⟩
 ·have:=F.lr k r;omega
 have⟨G,a,m,K,s,j,R,o,c⟩:=U i p;have:=V i G a p K;exact⟨G,a,m,K,s,g.row j (by omega),R,o,λk r=>(c k r).map (λ_ _ _ _ q=>q.rE g l)⟩
def KB.rE(h:KB w bb H N E n vres vgr vc nc vr nf ex ck W)(p:mH bb L n vres vgr W)(t:N+1<L)(r:bb<L)(q:L<=b)(l:aF W b 48 d)(g:eG (λk=>k=b) W Z):KB w bb H N E n vres vgr vc nc vr nf ex ck Z:=⟨h.bW.rE p q l g,g.row h.fw (by omega),g.row h.jJ (by omega),(h.dx.rE g l).wide g.size,g.aP h.aP (by have:=h.bW.row.lt;omega) (λk e=>by omega)⟩
structure j6(O:ay->Prop)(H L n:Nat):Prop where
 aD:∀W Z,O W->μ W Z->O Z
 kV:∀W Z,O W->dD H 9 (lF n) W Z->O Z
 kW:∀W Z,O W->dD H 65 (eZ n) W Z->O Z
 df:∀W Z b vs,O W->L<=b->aF W b 48 vs->eG (λk=>k=b) W Z->O Z
def j6.size:j6 (λW=>g<=W.heap.size) H L n:=⟨λ_ _ q k=>Ye q k.size,λ_ _ q k=>Ye q k.size,λ_ _ q k=>Ye q k.size,λ_ _ _ _ q _ _ k=>Ye q k.size⟩
def j6.DX(h:j6 X H L n)(d:j6 V H L n):j6 (λW=>X W/\V W) H L n:=⟨λW Z q k=>⟨h.aD W Z q.1 k,d.aD W Z q.2 k⟩,λW Z q k=>⟨h.kV W Z q.1 k,d.kV W Z q.2 k⟩,λW Z q k=>⟨h.kW W Z q.1 k,d.kW W Z q.2 k⟩,λW Z b g q r p k=>⟨h.df W Z b g q.1 r p k,d.df W Z b g q.2 r p k⟩⟩
def j6.jN(g:N8<L):j6 (gS bb H n vres N8 v1 c1 f1 d1) H L n:=⟨λ_ _ q k=>q.aD k,λ_ _ q k=>q.kV k,λ_ _ q k=>q.kW k,λ_ _ _ _ q h d k=>⟨k.row q.row (by omega),(q.dx.rE k d).wide k.size,q.gt,q.ne⟩⟩
def UM(d:j6 X H L n)(p:∀i,i<n->E i<=H)(r:bb<H)(K:N+1<L)(I:bb<L)(y:H<=w.heap.size):jy (λW=>KB w bb H N E n vres vgr vc nc vr nf ex ck W/\mH bb L n vres vgr W/\X W) H L n N vc nc vr nf:=by refine⟨λW Z h k=>⟨h.1.aD k,h.2.1.map (λl q=>bI q (λj G=>k.block j (q.lt j G).2)),d.aD W Z h.2.2 k⟩,λW Z h k=>⟨h.1.kV k p r,h.2.1.map (λl q=>k.dI q (by decide)),d.kV W Z h.2.2 k⟩,λW Z h k=>⟨h.1.kW k p r,h.2.1.map (λl q=>k.dI q (by decide)),d.kW W Z h.2.2 k⟩,λW Z b F h t g k=>⟨h.1.rE h.2.1 K I t g k,h.2.1.map (λl q=>k.yQ g q (by decide)),d.df W Z b F h.2.2 t g k⟩,λW h=>⟨_,_,h.1.fw⟩,λW h=>h.1.jJ,λW h=>h.1.dx.cm,λW h=>h.1.dx.fi,λW h=>Ye y h.1.aP.size⟩
def AS(y:L<=b)(t:bb<L)(p:∀k,vres.ownBlock=some k->k<L)(q:aF W b 48 [v1,f1,ι 0,ι 0])(h:W.ownsRow H 9 1 v1 (nc+m) (jg n (nc+m)))(g:W.ownsRow H 65 3 f1 (nf+m) (jC n (nf+m)))(r:nc+m<=16777216)(l:nf+m<=16777216):gS bb H n vres b v1 (nc+m) f1 (nf+m) W:=⟨q,⟨h,g,λk d=>(h.lt k d).2,λk d=>(g.lt k d).2,r,l⟩,by omega,λe=>by have:=p b e.symm;omega⟩
def Av{O:ay->Prop}(h:KB w bb H N E n vres vgr vc nc vr nf ex ck W)(t:O W)(F:j6 O H W.heap.size n)(q:∀i,i<n->E i<=H)(r:bb<H)(y:H<=w.heap.size):
 ∃L,L<=W.drew.heap.size/\bb<L/\(∀k,vres.ownBlock=some k->k<L)/\jy (λW=>KB w bb H N E n vres vgr vc nc vr nf ex ck W/\mH bb L n vres vgr W/\O W) H L n N vc nc vr nf/\(KB w bb H N E n vres vgr vc nc vr nf ex ck W.drew/\mH bb L n vres vgr W.drew/\O W.drew):=by have g:=h.bW.row.lt;have d:=mH.start h.bW;have p:μ W W.drew:=(X5 _ W).drew;have l:=UM (vres:=vres) (vgr:=vgr) (vc:=vc) (nc:=nc) (vr:=vr) (nf:=nf) (ex:=ex) (ck:=ck) F q r h.jJ.lt g y;exact⟨W.heap.size,X0 _,g,d.lr,l,l.aD W _ ⟨h,d,t⟩ p⟩
def dM(h:Nat.ble (k+1) m=true):k<m:=Nat.le_of_ble_eq_true h
end
def Tryz.SH:(Tryz.prog.info? 54).map (λi=>(i.zero,i.size,i.bytes))=some (some (ς),1,24):=by kernel_rfl
def Qm(h:((A.alloc bk).alloc K).drew.grownBy l F):A.grownBy l F:=(YZ A bk F).trans ((YZ _ K F).trans ⟨h.os,h.tape,h.output,h.size,h.block⟩)
def Vs(h:((A.alloc (.cells d.toArray r)).alloc K).drew.grownBy l F)(g:∀k,F=some k->k<A.heap.size):aF l A.heap.size r d:=by have p:aF ((A.alloc (.cells d.toArray r)).alloc K).drew A.heap.size r d:=(aF.bq A r d).alloc K;exact p.grown h (λe=>by have:=g _ e.symm;omega)
def Rg:∀u∈[Value.slice G n c],u.oneCell' =true:=by intro u d;simp only[YD,ZC,k8]at d;subst d;rfl
section
variable {E:Nat->Nat}
def eU.Wu(h:eU W bb E (n+1) n vres vgr)(G:W.ownsRow (bb+1) 54 1 vgr n d)(N:∀i,i<n->∃g aa q,d[i]?=some (ξ g 3 aa)/\bb<g/\aF W g 48 q/\q.length=12/\some g≠vres.ownBlock/\∀k,k<3->oT W (bb+1) (E i) i q k)(y:W.grownBy Z vgr.ownBlock)(Y:Z.ownsRow (bb+1) 54 1 bm (n+1) (d++[ξ g 3 aa]))(B:aF Z g 48 t)(P:W.heap.size<=g)(A:t.length=12)(H:∀k,k<3->oT W (bb+1) (E n) n t k):eU (Z.ψ bb 1 bm) bb E (n+1) (n+1) vres bm:=by
 have aj:=h.row.lt;have⟨q,l,m⟩:=h.cS;have w:∀k,vgr.ownBlock=some k->∃K S O,W.heap[k]?=some (Obj.cells K S O)/\S≠9/\S≠65:=λk e=>by have⟨K,O,M⟩:=dZ G k e;exact⟨K,_,O,M,by decide,by decide⟩
 have j:∀k,k≠bb->(Z.ψ bb 1 bm).heap[k]?=Z.heap[k]?:=λk F=>Ys Z (η bb 1) _ k F;have R:∀i b c a f,eN W (bb+1) (E i) i b c a f->eN (Z.ψ bb 1 bm) (bb+1) (E i) i b c a f:=λi b c a f r=>by have l:=r.kept y w;exact⟨cP l.cm (cQ l.cm (by omega)) _ _,cP l.fi (cQ l.fi (by omega)) _ _,l.lc,l.lf,l.hc,l.hf⟩
 have V:Z.ownsRow (bb+1) 48 4 vres (n+1) q:=by
  obtain e|e:=mc l G (by decide)
  ·exact Y' l y (.inl e)
  exact Y' l y (.inr e)
 have v:d.length=n:=by have:=G.1;omega
 have J:∀p,p <W.heap.size->(∃q,aF W p 48 q)->some p ≠vgr.ownBlock:=λp _ r e=>by have⟨ak,r⟩:=r;have⟨K,O,M⟩:=dZ G p e.symm;unfold aF at r;rw[r]at M;cases M
 refine⟨(h.row.grown y (cQ G (t' _))).set 1 bm,⟨q,cP V (cQ V (by omega)) _ _,λi U=>(m i U).map (λ_ _ _ _=>R i _ _ _ _)⟩,⟨_,cP Y (cQ Y (by omega)) _ _,λi U=>?_⟩⟩;by_cases D:i<n
 ·have⟨p,s,C,u,L,I,z,x,o⟩:=N i D;refine⟨p,s,C,?_,L,(j p (by omega)).trans ((y.block p I.lt (J p I.lt ⟨_,I⟩)).trans I),z,x,λk F=>(o k F).map (λ_ _ _ _=>R i _ _ _ _)⟩;rw[Zh (by omega)];exact u
 have:i=n:=by omega
 subst this;refine⟨g,aa,t,?_,by omega,(j g (by omega)).trans B,A,λe=>?_,λk F=>(H k F).map (λ_ _ _ _=>R i _ _ _ _)⟩
 ·rw[YH (by omega)];simp[v]
 have:=(l.lt g e.symm).2;omega
def gS.Db(h:gS bb H n vres N8 v1 c1 f1 d1 W)(p:bb+1<=H)(l:W.heap.size<=g)(q:(d.drop (4*k)).take 4=[v1,f1,ι 0,ι 0]):oT W (bb+1) g n d k:=⟨v1,c1,f1,d1,0,0,q,kY h.dx.cm p,kY h.dx.fi p,λk e=>Yo (h.dx.lc k e) l,λk e=>Yo (h.dx.lf k e) l,h.dx.hc,h.dx.hf⟩
def S_(h:KB w bb H N (Ew U n g) n vres vgr vc nc vr nf ex ck W)(f:g<=W.heap.size)(b:∀i,i<n->U i<=H)(u:H<=w.heap.size)(ak:bb<H)(a:gS bb H n vres N8 v1 c1 f1 d1 W)(Y:gS bb H n vres aa q ac I ab W)(M:gS bb H n vres ah S af R ae W)(t:W.ownsRow (bb+1) 54 1 vgr n d)(l:W.grownBy Z vgr.ownBlock)(o:Z.ownsRow (bb+1) 54 1 bm (n+1) (d++[ξ W.heap.size 3 Bn]))(j:aF Z W.heap.size 48 [v1,f1,ι 0,ι 0,q,I,ι 0,ι 0,S,R,ι 0,ι 0]):
 (∃E' ai ad,eU (Z.ψ bb 1 bm) bb E' (n+1) (n+1) ai ad/\∀i,i<n+1->E' i<=(Z.ψ bb 1 bm).heap.size)/\Below bb w (Z.ψ bb 1 bm):=by
 have y:=h.bW.wide (E':=Ew U n W.heap.size) (λi O=>by
  by_cases e:i=n
  ·subst e;rw[vx,vx];exact f
  rw[xq e,xq e];exact X0 _)
 obtain⟨v,c,V⟩:=y.gr;have m:=Io t c;subst m;have K:(Z.ψ bb 1 bm).heap.size=Z.heap.size:=by simp
 have r:=l.size;have aj:=h.aP.size;have s:=h.bW.row.lt;have G:Below bb W Z:=⟨l.os,l.tape,l.output,l.size,λk F=>l.block k (by omega) (λe=>by have:=(t.lt k e.symm).1;omega)⟩;refine⟨⟨_,_,_,y.Wu t V l o j ax rfl (λk F=>?_),λi O=>?_⟩,(h.aP.trans G).setCell (p:=η bb 1) ax _⟩
 ·rw[vx]
  match k,F with
  |0,_=>exact a.Db (by omega) ax rfl
  |1,_=>exact Y.Db (by omega) ax rfl
  |2,_=>exact M.Db (by omega) ax rfl
 rw[K];by_cases e:i=n
 ·subst e;rw[vx];exact r
 rw[xq e];have:=b i (by omega);omega
end
def Tp(n bb H:Nat)(E:Nat->Nat)(vres vgr vc vr:az)(nc nf:Nat)(xs ys:f')(ex ck:Int)(w:ay)(Z:n<2)(hB:eU w bb E n n vres vgr)(hE:∀i,i<n->E i<=H)(Q:bb<H)(hH:H<=w.heap.size)(hc:w.ownsRow H 9 1 vc nc xs)(hf:w.ownsRow H 65 3 vr nf ys)(b_:nc<=8388608)(bV:nf<=2097000):
 Calls prog 23 #[π bb,.agg #[vc,vr,ι ex,ι ck]] w λe w'=>e=.returned (.tuple #[])/\(∃E' bO bm,eU w' bb E' (n+1) (n+1) bO bm/\∀i,i<n+1->E' i<=w'.heap.size)/\Below bb w w':=by
 unfold π ι;obtain⟨M,I,rfl⟩:=dR hc;obtain⟨F,K,rfl⟩:=dR hf;have⟨cs,P,N⟩:=hB.cS;have⟨A,J,bu⟩:=dR P;subst bu;have b0:=hB.row.cell 0 (by simp);simp only[X6,X7]at b0;have:=hB.row.lt;have a3:μ w (w.alloc (.cells #[.slice M nc I,.slice F nf K,ι ex,ι ck] 48)):=ak w _;have aU:=aF.bq w 48 [.slice M nc I,.slice F nf K,ι ex,ι ck];have bc:KA w bb H w.heap.size E n (.slice A n J) vgr (.slice M nc I) nc (.slice F nf K) nf ex ck 0 0 ((w.alloc (.cells #[.slice M nc I,.slice F nf K,ι ex,ι ck] 48)).alloc (.cells #[.string ⟨#[107,101,112,116]⟩,ε,ι n] 65)):=by have bj:Below (w.alloc (.cells #[.slice M nc I,.slice F nf K,ι ex,ι ck] 48)).heap.size (w.alloc (.cells #[.slice M nc I,.slice F nf K,ι ex,ι ck] 48)) ((w.alloc (.cells #[.slice M nc I,.slice F nf K,ι ex,ι ck] 48)).alloc (.cells #[.string ⟨#[107,101,112,116]⟩,ε,ι n] 65)):=ak _ _;have aJ:=a3.tr bj;have be:=aF.bq (w.alloc (.cells #[.slice M nc I,.slice F nf K,ι ex,ι ck] 48)) 65 [.string ⟨#[107,101,112,116]⟩,ε,ι n];rw[X_]at be;exact⟨hB.aD aJ,aU.aD bj,be,⟨xs,bI hc (λk hk=>aJ.block k (hc.lt k hk).2),λj hj=>by omega⟩,⟨ys,bI hf (λk hk=>aJ.block k (hf.lt k hk).2),λj hj=>by omega⟩,aJ.mono (by omega)⟩
 have bv:∀t,M=some ⟨t,0,none⟩->t<w.heap.size:=λt e=>by subst e;exact(hc.lt t rfl).2
 have bF:∀t,F=some ⟨t,0,none⟩->t<w.heap.size:=λt e=>by subst e;exact(hf.lt t rfl).2
 have am:∀t,(Value.slice A n J).ownBlock=some t->t<w.heap.size:=λt e=>(P.lt t e).2;have bH:=aC am;have aN:=aC hE;go_in;go_wp2
 generalize (w.alloc (.cells #[.slice M nc I,.slice F nf K,ι ex,ι ck] 48)).alloc (.cells #[.string ⟨#[107,101,112,116]⟩,ε,ι n] 65)=W0 at*;go_loopw [6] (λq wr=>∃i:Nat,q=ι i/\i<=nc/\Hid (KA w bb H w.heap.size E n (.slice A n J) vgr (.slice M nc I) nc (.slice F nf K) nf ex ck i 0 wr)) (λq _=>nc-aV q)
 case atStart=>exact⟨0,rfl,Yh _,bc⟩
 obtain⟨i,rfl,cb,R⟩:=hrel;have r0:=R.fw.cell 0 (by simp);have r1:=R.fw.cell 1 (by simp);simp only[X6,X7]at r0 r1;by_cases hi:i<nc
 ·have:(i:Int)<nc:=by omega
  have:(0:Int)<=i:=by omega
  obtain⟨t,hg⟩:∃t,M=some ⟨t,0,none⟩:=by obtain⟨a7,m,-⟩:=R.cm;obtain⟨t,bC,he,-⟩:=dv m (by omega);cases he;exact⟨t,rfl⟩
  subst hg;have:=bv t rfl
  have:¬t=w.heap.size:=by omega
  have bE:=λW (h:KA w bb H w.heap.size E n (.slice A n J) vgr (ξ t nc I) nc (.slice F nf K) nf ex ck i 0 W)=>h.Xk hi Q aN;have CM:∀W,KA w bb H w.heap.size E n (.slice A n J) vgr (ξ t nc I) nc (.slice F nf K) nf ex ck i 0 W->Calls prog 56 #[ι n] W λe w'=>e=.returned (σ (kM n))/\KA w bb H w.heap.size E n (.slice A n J) vgr (ξ t nc I) nc (.slice F nf K) nf ex ck i 0 w'/\w'.χ w.heap.size 0=some (ξ t nc I)/\(∃u,w'.χ t i=some u)/\w'.frozen? (η t i)=false:=λW h=>by
   refine κ (BJ n (by omega) W) λw' bz=>?_;have h':=h.aD bz;obtain⟨a7,m,-⟩:=h'.cm;have:=m.1;refine⟨rfl,h',h'.fw.cell? (i:=0) rfl,⟨_,lI m i (by omega)⟩,?_⟩;obtain⟨q,_⟩|⟨g',bs,aP,y,_,q3,_⟩:=m.2
   ·cases q
   cases y;exact aF.frozen (show aF w' t 9 aP.toList by unfold aF;simpa using q3) i
  as_aux_lemma=>
   go_wp2
   have bo:KA w bb H w.heap.size E n (.slice A n J) vgr (ξ t nc I) nc (.slice F nf K) nf ex ck i 0 wr.drew:=R.aD (X5 _ wr).drew;go_region_held3 (λw'=>w'.χ w.heap.size 0=some (ξ t nc I)) (go_keep) (first|(go_at_call 56;refine(CM _ ?_).mono ?_;exact bo;rintro e w1⟨rfl,m,z0,⟨u,z1⟩,z2⟩;have aK:=bE _ m))
   all_goals go_wp2
   all_goals go_roundw
   all_goals first
    |exact⟨i+1,by go_num,by omega,aK⟩
    |(simp only[aV];omega)
 have bJ:i=nc:=by omega
 subst bJ;have:¬(i:Int)<i:=by omega
 go_wp2
 go_loopw [7] (λq wr=>∃k:Nat,q=ι k/\k<=nf/\Hid (KA w bb H w.heap.size E n (.slice A n J) vgr (.slice M i I) i (.slice F nf K) nf ex ck i k wr)) (λq _=>nf-aV q)
 case atStart=>exact⟨0,rfl,Yh _,R⟩
 obtain⟨k,rfl,b',R⟩:=hrel;have r1:=R.fw.cell 1 (by simp);have f0:=R.jJ.cell 0 (by simp);have f1:=R.jJ.cell 1 (by simp);have f2:=R.jJ.cell 2 (by simp);simp only[X6,X7]at r1 f0 f1 f2;by_cases hk:k<nf
 ·have:(k:Int)<nf:=by omega
  have:(0:Int)<=k:=by omega
  obtain⟨t,hg⟩:∃t,F=some ⟨t,0,none⟩:=by obtain⟨a7,m,-⟩:=R.fi;obtain⟨t,bC,he,-⟩:=dv m (by omega);cases he;exact⟨t,rfl⟩
  subst hg;have:=bF t rfl;have aK:=R.oh hk (by omega) Q aN;have aI:∀j,j<3->(∃u,wr.χ t (k*3+j)=some u)/\wr.frozen? (η t (k*3+j))=false:=λj hj=>by
   obtain⟨b7,m,-⟩:=R.fi;obtain⟨q,_⟩|⟨g',bs,aP,y,_,q3,q4,_,q6,_⟩:=m.2
   ·cases q
   cases y;have hr:aF wr t 65 aP.toList:=by unfold aF;simpa using q3
   exact⟨⟨_,hr.cell (k*3+j) (by simp[q6];omega)⟩,hr.frozen _⟩
  have⟨⟨u0,c0⟩,z0⟩:=aI 0 (by omega);have⟨⟨u1,c1⟩,z1⟩:=aI 1 (by omega);have⟨⟨u2,c2⟩,z2⟩:=aI 2 (by omega);rw[ZH]at c0 z0;unfold kept at f0 aK;as_aux_lemma=>
   go_wp2
   go_roundw
   case rel=>exact⟨k+1,by go_num,by omega,aK⟩
   simp only[aV];omega
 have bl:k=nf:=by omega
 subst bl;have:¬(k:Int)<k:=by omega
 have N:=R.dx (by omega) (by omega);have bh:Hid (∀i,i<n\/i<n->E i<=Ew E n wr.heap.size i):=λi hi=>by rw[xq (by omega)];exact X0 _
 have:=R.bW.row.lt;have aT:=R.bW.wide bh;have ba:eN wr (bb+1) (Ew E n wr.heap.size n) n (.slice M i I) i (.slice F k K) k:=⟨kY N.cm (by omega),kY N.fi (by omega),by rw[vx];exact N.lc,by rw[vx];exact N.lf,N.hc,N.hf⟩;have⟨cs,P,U⟩:=aT.cS;have x0:=R.bW.row.cell 0 (by simp);have x1:=R.bW.row.cell 1 (by simp);have y0:=R.fw.cell 0 (by simp);have y2:=R.fw.cell 2 (by simp);have y3:=R.fw.cell 3 (by simp);simp only[X6,X7]at x0 x1 y0 y2 y3;have⟨i0,bd,aY,bg,a_⟩:=Y1 Tryz.RD;have bK:=aC bd;have bM:=aC aY;have bN:=aC bg;have bt:=aC a_
 go_wp2
 go_cut [] from 43 to 52 (λS=>∃y G:Nat,Hid (KB w bb H w.heap.size (Ew E n wr.heap.size) n (ξ y (n+1) G) vgr (.slice M i I) i (.slice F k K) k ex ck S)/\wr.heap.size<=S.heap.size)
 case first=>
  go_region_law (refine Ec rfl (.tmp 47) (.tmp 49) 54 rfl (bb+1) 48 i0 _ 4 64 underlying54 bK bM bN bt rfl (by decide) _ n _ (by simp[Act.eval]) (P.alloc _) (η _ 0) 1 1 [.slice M i I,.slice F k K,ι ex,ι ck] (by simp[Act.eval]) rfl (gX _ _ [.slice M i I,.slice F k K,ι ex,ι ck]) (PR _ _ _ _ _ _ _ _) (by unfold maxLen;omega) (by omega) (by simp;omega) ?_;intro v1 w1 al an aH;obtain⟨y,G,rfl,-,-⟩:=dv al (by omega);have aM:=pD an;have bD:=eU.push aT cs P U aM al (OE aH) ba;have aO:=R.bW.row.grown aM (cQ P (t' _));have d0:=aO.cell 0 (by simp);have:=aO.frozen 0;simp only[X6]at d0;have bi:=aM)
  all_goals go_wp2
  all_goals go_meet
  all_goals exact⟨y,G,KB.start R N P bH (by omega) Q bi bD,by have h5:=bi.size;simpa using h5⟩
 case rest=>
 have⟨y,G,a5,bw⟩:=hcut;have aR:Hid (∀j,j<n->Ew E n wr.heap.size j<=H):=λj hj=>by rw[xq (by omega)];exact aN j hj
 go_upto_region 12 with fail
 go_cut [8] from 53 to 64 (λp8 S=>∃(v:Nat) (z C:az),p8=π v/\wr.heap.size<=S.heap.size/\Hid (KB w bb H w.heap.size (Ew E n wr.heap.size) n (ξ y (n+1) G) vgr (.slice M i I) i (.slice F k K) k ex ck S)/\Hid (gS bb H n (ξ y (n+1) G) v z (i+1) C (k+1) S))
 case first=>
  have⟨L,hL,ax,ap,r,hX⟩:=Av (O:=λW=>wr.heap.size<=W.heap.size) a5 bw j6.size aR Q hH;refine zU [53,54,55,56,57,58,59,60,61,62,63,64,8] (fB (λW=>KB w bb H w.heap.size (Ew E n wr.heap.size) n (ξ y (n+1) G) vgr (.slice M i I) i (.slice F k K) k ex ck W/\mH bb L n (ξ y (n+1) G) vgr W/\wr.heap.size<=W.heap.size) H L n w.heap.size 1 (.slice M i I) i (.slice F k K) k [0,1,2,3,4,5,6,7,8,9,10,11,12] [53,54,55,56,57,58,59,60,61,62,63,64,8] 13 8) (by kernel_rfl) (by kernel_rfl) (λT=> .inl ⟨id,hX,hL,λ_ _ _ _ _ q=>q.elim⟩) ?_ ?_
  ·intro Y o g D T W b aG d;obtain⟨l,p⟩|⟨U,-⟩:=b
   ·have B:Y<14:=(X8.1 g).1
    match Y,B with
    |0,_=>as_aux_lemma=>cases g;exact ur (f:=0) ⟨rfl,rfl,rfl,by decide,rfl,rfl,by decide,by decide⟩ (by decide) rfl (by decide) rfl l p
    |1,_=>as_aux_lemma=>cases g;exact A_ r (i:=0) (q:=53) ⟨rfl,rfl,rfl,by decide,rfl,rfl,by decide,by decide⟩ rfl (by decide) (dM rfl) rfl rfl (bU d 0 (by kernel_rfl)) l p
    |2,_=>as_aux_lemma=>cases g;exact u_ ⟨rfl,rfl,rfl,by decide,rfl,rfl,by decide,by decide⟩ rfl (by decide) rfl l p
    |3,_=>as_aux_lemma=>cases g;exact uH r Z (i:=2) (q:=55) ⟨rfl,rfl,rfl,by decide,rfl,rfl,by decide,by decide⟩ rfl (by decide) (dM rfl) rfl rfl (bU d 2 (by kernel_rfl)) l p
    |4,_=>as_aux_lemma=>cases g;exact Nf r (i0:=3) (q0:=56) ⟨rfl,rfl,rfl,by decide,rfl,rfl,by decide,by decide⟩ rfl (by decide) (dM rfl) rfl rfl (bU d 3 (by kernel_rfl)) l p
    |5,_=>as_aux_lemma=>cases g;exact Ag r (by omega) (i:=1) (q:=54) (i':=4) (q':=57) ⟨rfl,rfl,rfl,by decide,rfl,rfl,by decide,by decide⟩ rfl (by decide) (dM rfl) rfl rfl (bU d 1 (by kernel_rfl)) (by decide) (dM rfl) rfl rfl (bU d 4 (by kernel_rfl)) l p
    |6,_=>as_aux_lemma=>cases g;exact ur (f:=1) ⟨rfl,rfl,rfl,by decide,rfl,rfl,by decide,by decide⟩ (by decide) rfl (by decide) rfl l p
    |7,_=>as_aux_lemma=>cases g;exact A9 r (i:=6) (q:=59) ⟨rfl,rfl,rfl,by decide,rfl,rfl,by decide,by decide⟩ rfl (by decide) (dM rfl) rfl rfl (bU d 6 (by kernel_rfl)) l p
    |8,_=>as_aux_lemma=>cases g;exact uo r ⟨rfl,rfl,rfl,by decide,rfl,rfl,by decide,by decide⟩ rfl (by decide) rfl l p
    |9,_=>as_aux_lemma=>cases g;exact Oc r (i0:=8) (q0:=61) ⟨rfl,rfl,rfl,by decide,rfl,rfl,by decide,by decide⟩ rfl (by decide) (dM rfl) rfl rfl (bU d 8 (by kernel_rfl)) l p
    |10,_=>as_aux_lemma=>cases g;exact z_ r (by omega) (i:=7) (q:=60) (i':=9) (q':=62) ⟨rfl,rfl,rfl,by decide,rfl,rfl,by decide,by decide⟩ rfl (by decide) (dM rfl) rfl rfl (bU d 7 (by kernel_rfl)) (by decide) (dM rfl) rfl rfl (bU d 9 (by kernel_rfl)) l p
    |11,_=>as_aux_lemma=>cases g;exact BD (by decide) (i:=5) (q:=58) (i':=10) (q':=63) ⟨rfl,rfl,rfl,by decide,rfl,rfl,by decide,by decide⟩ rfl (by decide) (dM rfl) rfl rfl (bU d 5 (by kernel_rfl)) (by decide) (dM rfl) rfl rfl (bU d 10 (by kernel_rfl)) l p
    |12,_=>as_aux_lemma=>cases g;exact BZ r ⟨rfl,rfl,rfl,by decide,rfl,rfl,by decide,by decide⟩ rfl l p
    |13,_=>as_aux_lemma=>cases g;exact BS r (by decide) (i:=12) (q:=8) (i':=11) (q':=64) rfl rfl rfl rfl (by decide) (dM rfl) rfl rfl (bU d 12 (by kernel_rfl)) (by decide) (dM rfl) rfl rfl (bU d 11 (by kernel_rfl)) (λx c=>by match x,c with|0,_=>exact bU d 0 (by kernel_rfl)|1,_=>exact bU d 1 (by kernel_rfl)|2,_=>exact bU d 2 (by kernel_rfl)|3,_=>exact bU d 3 (by kernel_rfl)|4,_=>exact bU d 4 (by kernel_rfl)|5,_=>exact bU d 5 (by kernel_rfl)|6,_=>exact bU d 6 (by kernel_rfl)|7,_=>exact bU d 7 (by kernel_rfl)|8,_=>exact bU d 8 (by kernel_rfl)|9,_=>exact bU d 9 (by kernel_rfl)|10,_=>exact bU d 10 (by kernel_rfl)|11,_=>exact bU d 11 (by kernel_rfl)|12,_=>exact bU d 12 (by kernel_rfl)|x+13,c=>exact absurd c (by omega)) p
   exact(aG (U Y (by have B:Y<14:=(X8.1 g).1;omega))).elim
  intro D T W b U;obtain⟨l,-⟩|⟨-,b8,aq,au,hT,aw,ah,ag,af,ae⟩:=b
  ·exact(l (U 13 (dM rfl))).elim
  simp only[c_,YP,afQ,acm,Y0,Zd,hT];have a:=aC ah;have aE:=aC (AS (bb:=bb) (vres:=(ξ y (n+1) G)) aw ax ap ag af ae (by omega) (by omega));go_wp2
  go_meet;exact⟨b8,aq,au,rfl,a.2.2,a.1,aE⟩
 case rest=>
 obtain⟨v,z,C,rfl,bx,a',V⟩:=hcut;go_upto_region 13 with fail
 go_cut [9] from 65 to 79 (λp8 S=>∃(X:Nat) (v9 f9:az),p8=π X/\wr.heap.size<=S.heap.size/\Hid (KB w bb H w.heap.size (Ew E n wr.heap.size) n (ξ y (n+1) G) vgr (.slice M i I) i (.slice F k K) k ex ck S)/\Hid (gS bb H n (ξ y (n+1) G) v z (i+1) C (k+1) S)/\Hid (gS bb H n (ξ y (n+1) G) X v9 (i+2) f9 (k+2) S))
 case first=>
  have⟨L,hL,ax,ap,r,hX⟩:=Av (O:=λW=>wr.heap.size<=W.heap.size/\gS bb H n (ξ y (n+1) G) v z (i+1) C (k+1) W) a' ⟨bx,V⟩ (j6.DX j6.size (j6.jN V.row.lt)) aR Q hH;refine zU [65,66,67,68,69,70,71,72,73,74,75,76,77,78,79,9] (fB (λW=>KB w bb H w.heap.size (Ew E n wr.heap.size) n (ξ y (n+1) G) vgr (.slice M i I) i (.slice F k K) k ex ck W/\mH bb L n (ξ y (n+1) G) vgr W/\wr.heap.size<=W.heap.size/\gS bb H n (ξ y (n+1) G) v z (i+1) C (k+1) W) H L n w.heap.size 2 (.slice M i I) i (.slice F k K) k [0,1,2,3,2,3,4,5,6,7,8,8,9,10,11,12] [65,66,67,68,69,70,71,72,73,74,75,76,77,78,79,9] 16 9) (by kernel_rfl) (by kernel_rfl) (λT=> .inl ⟨id,hX,hL,λ_ _ _ _ _ q=>q.elim⟩) ?_ ?_
  ·intro Y o g D T W b aG d;obtain⟨l,p⟩|⟨U,-⟩:=b
   ·have B:Y<17:=(X8.1 g).1
    match Y,B with
    |0,_=>as_aux_lemma=>cases g;exact ur (f:=0) ⟨rfl,rfl,rfl,by decide,rfl,rfl,by decide,by decide⟩ (by decide) rfl (by decide) rfl l p
    |1,_=>as_aux_lemma=>cases g;exact A_ r (i:=0) (q:=65) ⟨rfl,rfl,rfl,by decide,rfl,rfl,by decide,by decide⟩ rfl (by decide) (dM rfl) rfl rfl (bU d 0 (by kernel_rfl)) l p
    |2,_=>as_aux_lemma=>cases g;exact u_ ⟨rfl,rfl,rfl,by decide,rfl,rfl,by decide,by decide⟩ rfl (by decide) rfl l p
    |3,_=>as_aux_lemma=>cases g;exact uH r Z (i:=2) (q:=67) ⟨rfl,rfl,rfl,by decide,rfl,rfl,by decide,by decide⟩ rfl (by decide) (dM rfl) rfl rfl (bU d 2 (by kernel_rfl)) l p
    |4,_=>as_aux_lemma=>cases g;exact u_ ⟨rfl,rfl,rfl,by decide,rfl,rfl,by decide,by decide⟩ rfl (by decide) rfl l p
    |5,_=>as_aux_lemma=>cases g;exact uH r Z (i:=4) (q:=69) ⟨rfl,rfl,rfl,by decide,rfl,rfl,by decide,by decide⟩ rfl (by decide) (dM rfl) rfl rfl (bU d 4 (by kernel_rfl)) l p
    |6,_=>as_aux_lemma=>cases g;exact Nw r (i0:=3) (q0:=68) (i1:=5) (q1:=70) ⟨rfl,rfl,rfl,by decide,rfl,rfl,by decide,by decide⟩ rfl (by decide) (dM rfl) rfl rfl (bU d 3 (by kernel_rfl)) (by decide) (dM rfl) rfl rfl (bU d 5 (by kernel_rfl)) l p
    |7,_=>as_aux_lemma=>cases g;exact Ag r (by omega) (i:=1) (q:=66) (i':=6) (q':=71) ⟨rfl,rfl,rfl,by decide,rfl,rfl,by decide,by decide⟩ rfl (by decide) (dM rfl) rfl rfl (bU d 1 (by kernel_rfl)) (by decide) (dM rfl) rfl rfl (bU d 6 (by kernel_rfl)) l p
    |8,_=>as_aux_lemma=>cases g;exact ur (f:=1) ⟨rfl,rfl,rfl,by decide,rfl,rfl,by decide,by decide⟩ (by decide) rfl (by decide) rfl l p
    |9,_=>as_aux_lemma=>cases g;exact A9 r (i:=8) (q:=73) ⟨rfl,rfl,rfl,by decide,rfl,rfl,by decide,by decide⟩ rfl (by decide) (dM rfl) rfl rfl (bU d 8 (by kernel_rfl)) l p
    |10,_=>as_aux_lemma=>cases g;exact uo r ⟨rfl,rfl,rfl,by decide,rfl,rfl,by decide,by decide⟩ rfl (by decide) rfl l p
    |11,_=>as_aux_lemma=>cases g;exact uo r ⟨rfl,rfl,rfl,by decide,rfl,rfl,by decide,by decide⟩ rfl (by decide) rfl l p
    |12,_=>as_aux_lemma=>cases g;exact Nu r (i0:=10) (q0:=75) (i1:=11) (q1:=76) ⟨rfl,rfl,rfl,by decide,rfl,rfl,by decide,by decide⟩ rfl (by decide) (dM rfl) rfl rfl (bU d 10 (by kernel_rfl)) (by decide) (dM rfl) rfl rfl (bU d 11 (by kernel_rfl)) l p
    |13,_=>as_aux_lemma=>cases g;exact z_ r (by omega) (i:=9) (q:=74) (i':=12) (q':=77) ⟨rfl,rfl,rfl,by decide,rfl,rfl,by decide,by decide⟩ rfl (by decide) (dM rfl) rfl rfl (bU d 9 (by kernel_rfl)) (by decide) (dM rfl) rfl rfl (bU d 12 (by kernel_rfl)) l p
    |14,_=>as_aux_lemma=>cases g;exact BD (by decide) (i:=7) (q:=72) (i':=13) (q':=78) ⟨rfl,rfl,rfl,by decide,rfl,rfl,by decide,by decide⟩ rfl (by decide) (dM rfl) rfl rfl (bU d 7 (by kernel_rfl)) (by decide) (dM rfl) rfl rfl (bU d 13 (by kernel_rfl)) l p
    |15,_=>as_aux_lemma=>cases g;exact BZ r ⟨rfl,rfl,rfl,by decide,rfl,rfl,by decide,by decide⟩ rfl l p
    |16,_=>as_aux_lemma=>cases g;exact BS r (by decide) (i:=15) (q:=9) (i':=14) (q':=79) rfl rfl rfl rfl (by decide) (dM rfl) rfl rfl (bU d 15 (by kernel_rfl)) (by decide) (dM rfl) rfl rfl (bU d 14 (by kernel_rfl)) (λx c=>by match x,c with|0,_=>exact bU d 0 (by kernel_rfl)|1,_=>exact bU d 1 (by kernel_rfl)|2,_=>exact bU d 2 (by kernel_rfl)|3,_=>exact bU d 3 (by kernel_rfl)|4,_=>exact bU d 4 (by kernel_rfl)|5,_=>exact bU d 5 (by kernel_rfl)|6,_=>exact bU d 6 (by kernel_rfl)|7,_=>exact bU d 7 (by kernel_rfl)|8,_=>exact bU d 8 (by kernel_rfl)|9,_=>exact bU d 9 (by kernel_rfl)|10,_=>exact bU d 10 (by kernel_rfl)|11,_=>exact bU d 11 (by kernel_rfl)|12,_=>exact bU d 12 (by kernel_rfl)|13,_=>exact bU d 13 (by kernel_rfl)|14,_=>exact bU d 14 (by kernel_rfl)|15,_=>exact bU d 15 (by kernel_rfl)|x+16,c=>exact absurd c (by omega)) p
   exact(aG (U Y (by have B:Y<17:=(X8.1 g).1;omega))).elim
  intro D T W b U;obtain⟨l,-⟩|⟨-,b8,aq,au,hT,aw,ah,ag,af,ae⟩:=b
  ·exact(l (U 16 (dM rfl))).elim
  simp only[c_,YP,afQ,acm,Y0,Zd,hT];have a:=aC ah;have aE:=aC (AS (bb:=bb) (vres:=(ξ y (n+1) G)) aw ax ap ag af ae (by omega) (by omega));go_wp2
  go_meet;exact⟨b8,aq,au,rfl,a.2.2.1,a.1,a.2.2.2,aE⟩
 case rest=>
 obtain⟨X,v9,f9,rfl,bA,a0,V,s⟩:=hcut;go_upto_region 14 with fail
 go_cut [10] from 80 to 97 (λp8 S=>∃(aS:Nat) (v10 bf:az),p8=π aS/\wr.heap.size<=S.heap.size/\Hid (KB w bb H w.heap.size (Ew E n wr.heap.size) n (ξ y (n+1) G) vgr (.slice M i I) i (.slice F k K) k ex ck S)/\Hid (gS bb H n (ξ y (n+1) G) v z (i+1) C (k+1) S)/\Hid (gS bb H n (ξ y (n+1) G) X v9 (i+2) f9 (k+2) S)/\Hid (gS bb H n (ξ y (n+1) G) aS v10 (i+3) bf (k+3) S))
 case first=>
  have⟨L,hL,ax,ap,r,hX⟩:=Av (O:=λW=>wr.heap.size<=W.heap.size/\gS bb H n (ξ y (n+1) G) v z (i+1) C (k+1) W/\gS bb H n (ξ y (n+1) G) X v9 (i+2) f9 (k+2) W) a0 ⟨bA,V,s⟩ (j6.DX j6.size (j6.DX (j6.jN V.row.lt) (j6.jN s.row.lt))) aR Q hH;refine zU [80,81,82,83,84,85,86,87,88,89,90,91,92,93,94,95,96,97,10] (fB (λW=>KB w bb H w.heap.size (Ew E n wr.heap.size) n (ξ y (n+1) G) vgr (.slice M i I) i (.slice F k K) k ex ck W/\mH bb L n (ξ y (n+1) G) vgr W/\wr.heap.size<=W.heap.size/\gS bb H n (ξ y (n+1) G) v z (i+1) C (k+1) W/\gS bb H n (ξ y (n+1) G) X v9 (i+2) f9 (k+2) W) H L n w.heap.size 3 (.slice M i I) i (.slice F k K) k [0,1,2,3,2,3,2,3,4,5,6,7,8,8,8,9,10,11,12] [80,81,82,83,84,85,86,87,88,89,90,91,92,93,94,95,96,97,10] 19 10) (by kernel_rfl) (by kernel_rfl) (λT=> .inl ⟨id,hX,hL,λ_ _ _ _ _ q=>q.elim⟩) ?_ ?_
  ·intro Y o g D T W b aG d;obtain⟨l,p⟩|⟨U,-⟩:=b
   ·have B:Y<20:=(X8.1 g).1
    match Y,B with
    |0,_=>as_aux_lemma=>cases g;exact ur (f:=0) ⟨rfl,rfl,rfl,by decide,rfl,rfl,by decide,by decide⟩ (by decide) rfl (by decide) rfl l p
    |1,_=>as_aux_lemma=>cases g;exact A_ r (i:=0) (q:=80) ⟨rfl,rfl,rfl,by decide,rfl,rfl,by decide,by decide⟩ rfl (by decide) (dM rfl) rfl rfl (bU d 0 (by kernel_rfl)) l p
    |2,_=>as_aux_lemma=>cases g;exact u_ ⟨rfl,rfl,rfl,by decide,rfl,rfl,by decide,by decide⟩ rfl (by decide) rfl l p
    |3,_=>as_aux_lemma=>cases g;exact uH r Z (i:=2) (q:=82) ⟨rfl,rfl,rfl,by decide,rfl,rfl,by decide,by decide⟩ rfl (by decide) (dM rfl) rfl rfl (bU d 2 (by kernel_rfl)) l p
    |4,_=>as_aux_lemma=>cases g;exact u_ ⟨rfl,rfl,rfl,by decide,rfl,rfl,by decide,by decide⟩ rfl (by decide) rfl l p
    |5,_=>as_aux_lemma=>cases g;exact uH r Z (i:=4) (q:=84) ⟨rfl,rfl,rfl,by decide,rfl,rfl,by decide,by decide⟩ rfl (by decide) (dM rfl) rfl rfl (bU d 4 (by kernel_rfl)) l p
    |6,_=>as_aux_lemma=>cases g;exact u_ ⟨rfl,rfl,rfl,by decide,rfl,rfl,by decide,by decide⟩ rfl (by decide) rfl l p
    |7,_=>as_aux_lemma=>cases g;exact uH r Z (i:=6) (q:=86) ⟨rfl,rfl,rfl,by decide,rfl,rfl,by decide,by decide⟩ rfl (by decide) (dM rfl) rfl rfl (bU d 6 (by kernel_rfl)) l p
    |8,_=>as_aux_lemma=>cases g;exact NO r (i0:=3) (q0:=83) (i1:=5) (q1:=85) (i2:=7) (q2:=87) ⟨rfl,rfl,rfl,by decide,rfl,rfl,by decide,by decide⟩ rfl (by decide) (dM rfl) rfl rfl (bU d 3 (by kernel_rfl)) (by decide) (dM rfl) rfl rfl (bU d 5 (by kernel_rfl)) (by decide) (dM rfl) rfl rfl (bU d 7 (by kernel_rfl)) l p
    |9,_=>as_aux_lemma=>cases g;exact Ag r (by omega) (i:=1) (q:=81) (i':=8) (q':=88) ⟨rfl,rfl,rfl,by decide,rfl,rfl,by decide,by decide⟩ rfl (by decide) (dM rfl) rfl rfl (bU d 1 (by kernel_rfl)) (by decide) (dM rfl) rfl rfl (bU d 8 (by kernel_rfl)) l p
    |10,_=>as_aux_lemma=>cases g;exact ur (f:=1) ⟨rfl,rfl,rfl,by decide,rfl,rfl,by decide,by decide⟩ (by decide) rfl (by decide) rfl l p
    |11,_=>as_aux_lemma=>cases g;exact A9 r (i:=10) (q:=90) ⟨rfl,rfl,rfl,by decide,rfl,rfl,by decide,by decide⟩ rfl (by decide) (dM rfl) rfl rfl (bU d 10 (by kernel_rfl)) l p
    |12,_=>as_aux_lemma=>cases g;exact uo r ⟨rfl,rfl,rfl,by decide,rfl,rfl,by decide,by decide⟩ rfl (by decide) rfl l p
    |13,_=>as_aux_lemma=>cases g;exact uo r ⟨rfl,rfl,rfl,by decide,rfl,rfl,by decide,by decide⟩ rfl (by decide) rfl l p
    |14,_=>as_aux_lemma=>cases g;exact uo r ⟨rfl,rfl,rfl,by decide,rfl,rfl,by decide,by decide⟩ rfl (by decide) rfl l p
    |15,_=>as_aux_lemma=>cases g;exact Nt r (i0:=12) (q0:=92) (i1:=13) (q1:=93) (i2:=14) (q2:=94) ⟨rfl,rfl,rfl,by decide,rfl,rfl,by decide,by decide⟩ rfl (by decide) (dM rfl) rfl rfl (bU d 12 (by kernel_rfl)) (by decide) (dM rfl) rfl rfl (bU d 13 (by kernel_rfl)) (by decide) (dM rfl) rfl rfl (bU d 14 (by kernel_rfl)) l p
    |16,_=>as_aux_lemma=>cases g;exact z_ r (by omega) (i:=11) (q:=91) (i':=15) (q':=95) ⟨rfl,rfl,rfl,by decide,rfl,rfl,by decide,by decide⟩ rfl (by decide) (dM rfl) rfl rfl (bU d 11 (by kernel_rfl)) (by decide) (dM rfl) rfl rfl (bU d 15 (by kernel_rfl)) l p
    |17,_=>as_aux_lemma=>cases g;exact BD (by decide) (i:=9) (q:=89) (i':=16) (q':=96) ⟨rfl,rfl,rfl,by decide,rfl,rfl,by decide,by decide⟩ rfl (by decide) (dM rfl) rfl rfl (bU d 9 (by kernel_rfl)) (by decide) (dM rfl) rfl rfl (bU d 16 (by kernel_rfl)) l p
    |18,_=>as_aux_lemma=>cases g;exact BZ r ⟨rfl,rfl,rfl,by decide,rfl,rfl,by decide,by decide⟩ rfl l p
    |19,_=>as_aux_lemma=>cases g;exact BS r (by decide) (i:=18) (q:=10) (i':=17) (q':=97) rfl rfl rfl rfl (by decide) (dM rfl) rfl rfl (bU d 18 (by kernel_rfl)) (by decide) (dM rfl) rfl rfl (bU d 17 (by kernel_rfl)) (λx c=>by match x,c with|0,_=>exact bU d 0 (by kernel_rfl)|1,_=>exact bU d 1 (by kernel_rfl)|2,_=>exact bU d 2 (by kernel_rfl)|3,_=>exact bU d 3 (by kernel_rfl)|4,_=>exact bU d 4 (by kernel_rfl)|5,_=>exact bU d 5 (by kernel_rfl)|6,_=>exact bU d 6 (by kernel_rfl)|7,_=>exact bU d 7 (by kernel_rfl)|8,_=>exact bU d 8 (by kernel_rfl)|9,_=>exact bU d 9 (by kernel_rfl)|10,_=>exact bU d 10 (by kernel_rfl)|11,_=>exact bU d 11 (by kernel_rfl)|12,_=>exact bU d 12 (by kernel_rfl)|13,_=>exact bU d 13 (by kernel_rfl)|14,_=>exact bU d 14 (by kernel_rfl)|15,_=>exact bU d 15 (by kernel_rfl)|16,_=>exact bU d 16 (by kernel_rfl)|17,_=>exact bU d 17 (by kernel_rfl)|18,_=>exact bU d 18 (by kernel_rfl)|x+19,c=>exact absurd c (by omega)) p
   exact(aG (U Y (by have B:Y<20:=(X8.1 g).1;omega))).elim
  intro D T W b U;obtain⟨l,-⟩|⟨-,b8,aq,au,hT,aw,ah,ag,af,ae⟩:=b
  ·exact(l (U 19 (dM rfl))).elim
  simp only[c_,YP,afQ,acm,Y0,Zd,hT];have a:=aC ah;have aE:=aC (AS (bb:=bb) (vres:=(ξ y (n+1) G)) aw ax ap ag af ae (by omega) (by omega));go_wp2
  go_meet;exact⟨b8,aq,au,rfl,a.2.2.1,a.1,a.2.2.2.1,a.2.2.2.2,aE⟩
 case rest=>
 obtain⟨aS,v10,bf,rfl,br,ar,V,s,aj⟩:=hcut;obtain⟨g8,e8,rfl,-,-⟩:=dv V.dx.cm (by omega);obtain⟨bR,b9,rfl,-,-⟩:=dv V.dx.fi (by omega);obtain⟨g9,e9,rfl,-,-⟩:=dv s.dx.cm (by omega);obtain⟨b5,b4,rfl,-,-⟩:=dv s.dx.fi (by omega);obtain⟨b2,b6,rfl,-,-⟩:=dv aj.dx.cm (by omega);obtain⟨bQ,bS,rfl,-,-⟩:=dv aj.dx.fi (by omega);have x1:=ar.bW.row.cell? (i:=1) rfl;have y0:=V.row.cell? (i:=0) rfl;have:=V.row.cell? (i:=1) rfl;have y2:=V.row.cell? (i:=2) rfl;have y3:=V.row.cell? (i:=3) rfl;have z0:=s.row.cell? (i:=0) rfl;have z1:=s.row.cell? (i:=1) rfl;have z2:=s.row.cell? (i:=2) rfl;have:=s.row.cell? (i:=3) rfl;have:=aj.row.cell? (i:=0) rfl;have bT:=aj.row.cell? (i:=1) rfl;have bP:=aj.row.cell? (i:=2) rfl;have:=aj.row.cell? (i:=3) rfl;obtain⟨gs,a6,-⟩:=ar.bW.gr;have:=ar.bW.row.lt;have⟨s0,aZ,a4,a9,aW⟩:=Y1 Tryz.SH;have bp:=aC aZ;have bG:=aC a4;have bn:=aC a9;have bB:=aC aW;go_upto_region 15 with fail
 go_region_law (refine Ec rfl (.tmp 102) (.tmp 107) 55 rfl (bb+1) 54 s0 _ 1 24 underlying55 bp bG bn bB rfl (by decide) vgr n gs (by simp[Act.eval]) ((a6.alloc _).alloc _) (η _ 0) 1 1 [ξ _ 3 3] (by simp[Act.eval]) rfl (gX _ _ [ξ _ 3 3]) (Rg) (by unfold maxLen;omega) (by omega) (by simp;omega) ?_;intro v1 w1 al an aH;obtain⟨q3,q4,rfl,-,-⟩:=dv al (by omega);have aX:=Vs an (λq hq=>(a6.lt q hq).2);have am:=Qm an;have HE:=S_ ar br aN hH Q V s aj a6 am al aX;have aQ:=ar.bW.row.grown am (cQ a6 (t' _));have d0:=aQ.cell? (i:=1) rfl;have:=aQ.frozen 1)
 all_goals go_wp2
 all_goals go_end0
 all_goals exact⟨rfl,HE⟩
def eN.XE(h:eN W aa ah n (.slice G nc g) nc vr nf):vD W G (List.replicate nc (kM n)):=by
 obtain⟨p,l⟩|⟨q,a,O,p,l,y,I,K,R,M⟩:=h.cm.2
 ·subst l;exact⟨0,0,λr=>by simp at r,λi d=>by simp at d⟩
 cases p;refine⟨q,0,λ_=>⟨rfl,(X8.1 y).1⟩,λi d=>?_⟩;have t:i<nc:=by simpa using d
 have F:=lI h.cm i (by unfold jg;simp;exact t);rw[YO,F];unfold jg lF;simp
def eN.XJ(h:eN W aa ah n vc nc (.slice G nf g) nf):vy W G (List.replicate nf (rM n)):=by
 obtain⟨r,q⟩|⟨l,a,t,r,q,F,R,S,V,K⟩:=h.fi.2
 ·subst q;exact⟨0,0,λM=>by simp at M,λi p=>by simp at p⟩
 cases r;have O:aF W l 65 t.toList:=by unfold aF;simpa using F
 have d:∀j,j<nf*3->W.cell? ⟨l,j,none⟩=some (eZ n j):=λj I=>by
  refine O.cell? ?_;have y:(t.toList.take (nf*3))[j]?=some (eZ n j):=by rw[K];unfold jC;simp[I]
  rw[NM I]at y;exact y
 refine⟨l,0,λ_=>⟨rfl,(X8.1 F).1⟩,λi p=>?_⟩;have:i<nf:=by simpa using p
 have e:(List.replicate nf (rM n))[i]=rM n:=by simp
 rw[e];refine⟨?_,?_,?_⟩
 ·rw[show 0+i*3=i*3 by omega,d _ (by omega)];unfold eZ;rw[Yd (by omega)];rfl
 ·rw[show 0+i*3+1=i*3+1 by omega,d _ (by omega)];unfold eZ;rw[Yb (by omega),Yd (by omega)];rfl
 rw[show 0+i*3+2=i*3+2 by omega,d _ (by omega)];unfold eZ;rw[Yb (by omega),Yb (by omega)];rfl
def SN(h:(d.drop (4*k)).take 4=[S,v1,q,I]):d[k*4]?=some S/\d[k*4+1]?=some v1/\d[k*4+2]?=some q/\d[k*4+3]?=some I:=by
 have g:∀j,j<4->d[k*4+j]?=[S,v1,q,I][j]?:=λj g=>by rw[<-h,NM g,List.getElem?_drop];congr 1;omega
 exact⟨g 0 (by omega),g 1 (by omega),g 2 (by omega),g 3 (by omega)⟩
def oT.cS(h:oT W g aa n d k)(q:b<W.heap.size)(l:∀j u,d[j]?=some u->W.χ b j=some u):vj W b (k*4) n:=by have⟨o,f,m,i,a,e,r,D⟩:=h;obtain⟨I,p,rfl⟩:=dR D.cm;obtain⟨K,G,rfl⟩:=dR D.fi;have⟨t,c,y,F⟩:=SN r;exact⟨q,I,f,p,K,i,G,a,e,l _ _ t,l _ _ c,l _ _ y,l _ _ F,D.XE,D.XJ,D.hc,D.hf⟩
def eU.WI(h:eU W bb U n n vres vgr):xo W bb n:=by
 have⟨K,t,I⟩:=h.cS;have⟨H,y,e⟩:=h.gr;obtain⟨G,o,rfl⟩:=dR t;obtain⟨Y,v,rfl⟩:=dR y;have F:=h.row.cell? (i:=0) rfl;have a:=h.row.cell? (i:=1) rfl;by_cases B:n=0
 ·subst B;exact⟨h.row.lt,G,o,0,Y,v,0,F,a,λw=>by omega,λw=>by omega,λi p=>by omega⟩
 obtain⟨l,D,S,-,s⟩:=dv t (by omega);cases S;obtain⟨x,T,M,-,R⟩:=dv y (by omega);cases M;have m:∀j u,K[j]?=some u->W.χ l j=some u:=λj u d=>by
  obtain⟨q,_⟩|⟨J,Q,O,r,_,g,_,_,_,b⟩:=t.2
  ·cases q
  cases r;have V:aF W l 48 O.toList:=by unfold aF;simpa using g
  refine V.cell? ?_;rw[<-b]at d;rw[acN]at d;split at d
  ·exact d
  cases d
 refine⟨h.row.lt,_,_,l,_,_,x,F,a,λ_=>rfl,λ_=>⟨rfl,R⟩,λi p=>⟨(I i p).cS s m,?_⟩⟩;have⟨C,A,L,r,X,g,P,N,f⟩:=e i p;have⟨z,E⟩:=Yl.1 r;refine⟨C,A,by rw[<-E];exact lI y i z,λk c=>(f k c).cS g.lt (λj u d=>g.cell? d)⟩


