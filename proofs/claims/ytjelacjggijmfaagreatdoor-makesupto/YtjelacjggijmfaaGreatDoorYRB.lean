/- . -/
import Derived.Test.YtjelacjggijmfaaGreatDoorYSS
set_option linter.all false
set_option maxHeartbeats 2000000
set_option maxRecDepth 20000
namespace Go.Proofs.YtjelacjggijmfaaGreatDoor
open Pl Mk Cp Proofs.Tryz
open RowKit
variable {f q n u:ay}{a m o r s t x:Nat}{c:fy}{b:aj}{j h:f'}{d i g k l:az}{e:Int}{p:Wd}{v:aJ}{w:fv}
def fP(f:aJ):f':=[aK f.aL,aK f.aU,ι f.jK]
def fZ(a:fy):f':=a.flatMap fP
def Mm(a:fy):(fZ a).length=a.length*3:=by
 induction a with
 |nil=>rfl|cons f c b=>unfold fZ at*;rw[YA,X4,b,Ya];simp[fP];omega
def ya(b:fy):∀(a:Nat) (h:a<b.length),(fZ b)[a*3]?=some (aK b[a].aL)/\(fZ b)[a*3+1]?=some (aK b[a].aU)/\(fZ b)[a*3+2]?=some (ι b[a].jK):=by
 induction b with
 |nil=>intro a h;simp at h
 |cons f e c=>
  intro a h;unfold fZ;rw[YA];cases a with
  |zero=>simp[fP]
  |succ a=>have:=c a (by simpa using h);unfold fZ at this;have d:(fP f).length=3:=rfl;rw[YH (by omega),YH (by omega),YH (by omega),d];rw[show (a+1)*3-3=a*3 from by omega,show (a+1)*3+1-3=a*3+1 from by omega,show (a+1)*3+2-3=a*3+2 from by omega];exact this
def eJ(w:ay)(b d:Nat)(c:fy):Prop:=∀a (h:a<c.length),w.cell? ⟨b,d+a*3,none⟩=some (aK c[a].aL)/\w.cell? ⟨b,d+a*3+1,none⟩=some (aK c[a].aU)/\w.cell? ⟨b,d+a*3+2,none⟩=some (ι c[a].jK)
def eJ.aP(h:eJ q m a c)(g:Below o q f)(i:m<o):eJ f m a c:=λd e=>⟨(g.cell (p:=η m _) i).trans (h d e).1,(g.cell (p:=η m _) i).trans (h d e).2.1,(g.cell (p:=η m _) i).trans (h d e).2.2⟩
def pC(b:fy)(a:aj):ib:=b.findIdx? (λf=>f.aL==a)
def jW(a:fy)(b:aj):Int:=match pC a b with
 |some k=>k
 |none=> -1
def Sp(e:m<c.length)(d:∀a (h:a<m),c[a].aL≠b)(g:c[m].aL=b):jW c b=m:=by
 have:pC c b=some m:=by unfold pC;rw[YM];exact⟨e,by simpa using g,λa f=>by simpa using d a f⟩
 unfold jW;rw[this]
def Vf(e:∀a (h:a<c.length),c[a].aL≠b):jW c b= -1:=by
 have:pC c b=none:=by unfold pC;rw[Zg];intro x d;obtain⟨a,f,rfl⟩:=ZD d;simpa using e a f
 unfold jW;rw[this]
def qg(c:fy)(f:aj)(a:fY)(r b o:Nat)(w:ay)(q:0<c.length->a=some ⟨b,o,none⟩)(n:eJ w b o c)(y:c.length<=16777216):
 Calls prog 45 #[.slice a c.length r,aK f] w λe s=>e=.returned (ι (jW c f))/\w=s:=by
 unfold aK;go_in;go_wp2
 go_loopw [5] (λl wr=>∃k:Nat,l=ι k/\k<=c.length/\Hid (∀d (h:d<c.length),d<k->c[d].aL≠f)/\wr=w) (λl _=>c.length-aV l)
 case atStart=>exact⟨0,rfl,Yh _,λd _ h=>by omega,rfl⟩
 obtain⟨k,rfl,z,i,rfl⟩:=hrel;by_cases p:k<c.length
 ·obtain rfl:=(aC q).u (by omega);obtain⟨v,-,-⟩:=n k p;unfold aK at v;by_cases g:c[k].aL=f
  ·have m:=aC (Sp p (λd j=>i d (by omega) j) g);have:(c[k].aL==f)=true:=by simpa using g
   go_wp2
   go_ret;exact⟨sW m.symm,rfl⟩
  have:(c[k].aL==f)=false:=by simpa using g
  have t:Hid (∀d (h:d<c.length),d<k+1->c[d].aL≠f):=by
   intro d h j;by_cases e:d=k
   ·subst e;exact g
   exact i d h (by omega)
  go_wp2
  go_roundw
  case rel=>exact⟨k+1,by go_num,by omega,t,trivial⟩
  simp only[aV];omega
 have m:=aC (Vf (λd j=>i d j (by omega)));go_wp2
 go_ret;exact⟨sW m.symm,rfl⟩
def sR(h:f.ownsRow m o r (ξ a s t) s j)(c:Nat)(u:az):
 (f.ψ a c u).ownsRow m o r (ξ a s t) s (j.set c u):=by
 obtain⟨b,d⟩|⟨q,p,l,b,d,B,g,i,e,k⟩:=h.2
 ·cases b
 simp only[acT,H9,afY,rB,Zw]at b;obtain⟨rfl,rfl⟩:=b;refine⟨by simpa using h.1,.inr ⟨a,t,l.set! c u,rfl,d,?_,g,i,by simpa using e,?_⟩⟩
 ·simp[World.setCell,Array.getElem?_modify,B]
 rw[<-k];simp[List.take_set]
def cP(h:f.ownsRow a m o d r j)(B:some s≠d.ownBlock)(c:Nat)(u:az):(f.ψ s c u).ownsRow a m o d r j:=h.kept (row:=some s) ⟨rfl,rfl,rfl,by simp[World.setCell],λk _ b=>Ys f (η s c) u k (λm=>b (by rw[show k=s from m]))⟩ (.inr (λm=>B m.symm))
def gp(w:ay)(B:Nat)(v:az)(a:fy):Prop:=w.ownsRow B 89 3 v a.length (fZ a)
def gp.nil(w:ay)(B:Nat):gp w B (ς) []:=YG _ _ _ _
def gp.aD(h:gp q a d c)(B:μ q f):gp f a d c:=h.kept (row:=none) ⟨B.os,B.tape,B.output,B.size,λk b _=>B.block k b⟩ (by cases d.ownBlock<;>simp)
def gp.rd(h:gp f m i c):∃a cap b,i=.slice a c.length cap/\(0<c.length->a=some ⟨b,0,none⟩)/\eJ f b 0 c/\(0<c.length->m<=b/\b<f.heap.size/\∀d,f.frozen? (η b d)=false):=by
 have j:=λb B=>World.ownsRow.cells (g:=b) h B;obtain⟨g,v⟩|⟨b,cap,u,g,v,w,y,z,x,A⟩:=h.2
 ·exact⟨none,0,0,by rw[g,v],λk=>by omega,λo n=>by omega,λk=>by omega⟩
 refine⟨_,cap,b,g,λ_=>rfl,λo n=>?_,λ_=>⟨v,(X8.1 w).1,λd=>by simp[World.frozen?,w]⟩⟩;have B:i.ownBlock=some b:=by rw[g];rfl
 have⟨t,r,s⟩:=ya c o n;have l:=j b B _ _ t;have p:=j b B _ _ r;have q:=j b B _ _ s;have e:∀d,(⟨b,0,none⟩:Addr).add d=⟨b,0+d,none⟩:=λd=>by unfold Addr.add;split<;>simp_all
 rw[e]at l p q;exact⟨l,p,q⟩
def Fc(a:fy)(f:aJ):∀(k:Nat) (_:k<a.length),(((fZ a).set (k*3) (aK f.aL)).set (k*3+1) (aK f.aU)).set (k*3+2) (ι f.jK)=fZ (a.set k f):=by
 induction a with
 |nil=>intro k h;simp at h
 |cons b e c=>
  intro k h;cases k with
  |zero=>simp[fZ,fP]
  |succ k=>have:=c k (by simpa using h);unfold fZ at*;rw[Y0,YA,YA];have d:(fP b).length=3:=rfl;rw[Zc _ _ (by omega),Zc _ _ (by omega),Zc _ _ (by omega),d];rw[show (k+1)*3-3=k*3 from by omega,show (k+1)*3+1-3=k*3+1 from by omega,show (k+1)*3+2-3=k*3+2 from by omega,this]
def gp.set{w:ay}(h:gp w m (ξ a c.length o) c)(k:Nat)(b:k<c.length)(f:aJ):
 gp (((w.ψ a (k*3) (aK f.aL)).ψ a (k*3+1) (aK f.aU)).ψ a (k*3+2) (ι f.jK)) m (ξ a c.length o) (c.set k f):=by unfold gp at*;have:=sR (sR (sR h (k*3) (aK f.aL)) (k*3+1) (aK f.aU)) (k*3+2) (ι f.jK);rw[Fc c f k b]at this;simpa using this
def mc(B:f.ownsRow a m r d t j)(u:f.ownsRow a o s i x h)(p:m≠o):d.ownBlock=none\/d.ownBlock≠i.ownBlock:=by
 obtain⟨rfl,_⟩|⟨g,e,b,rfl,_,l,_⟩:=B.2
 ·exact .inl rfl
 right;obtain⟨rfl,_⟩|⟨k,q,n,rfl,_,c,_⟩:=u.2
 ·simp[Value.ownBlock]
 intro v;have:g=k:=by simpa [Value.ownBlock]using v
 subst this;rw[l]at c;cases c;exact p rfl
structure xp(w:ay)(L b o:Nat)(e:bu):Prop where
 dg:w.cell? ⟨b,o,none⟩=some (aK e.dg)
 exit:w.cell? ⟨b,o+2,none⟩=some (ι e.exit)
 cE:∃aw cw bw ow,w.cell? ⟨b,o+1,none⟩=some (.slice aw e.cE.length cw)/\(0<e.cE.length->aw=some ⟨bw,ow,none⟩)/\eJ w bw ow e.cE/\bw<L
def kX(w:ay)(L b d:Nat)(c:ga):Prop:=b<L/\∀a (h:a<c.length),xp w L b (d+a*3) c[a]
def xp.aP{e:bu}(h:xp q m o a e)(c:Below m q f)(d:o<m):xp f m o a e:=by have⟨l,i,j,b,n,r,L,k,w,g⟩:=h;exact⟨(c.cell (p:=η o _) d).trans l,(c.cell (p:=η o _) d).trans i,j,b,n,r,(c.cell (p:=η o _) d).trans L,k,w.aP c g,g⟩
def kX.aP{c:ga}(h:kX q m o a c)(d:Below m q f):kX f m o a c:=⟨h.1,λg e=>(h.2 g e).aP d h.1⟩
structure RW(w:ay)(B bx:Nat)(ve vf vc:az)(X:Wd):Prop where
 row:aF w bx 99 [vf,ι X.aQ,ve,vc,ι X.exit]
 aW:gp w B vf X.aW
 aI:fJ w B vc X.aI
 lt:bx<B
def RW.aD{vc:az}(h:RW q m a d i vc p)(b:μ q f):RW f m a d i vc p:=⟨h.row.aD b,h.aW.aD b,h.aI.aD b,h.lt⟩
def rA{fs:fy}{p:aj}:(jW fs p= -1/\Pl.look fs p=none)\/∃(k:Nat) (h:k<fs.length),jW fs p=k/\Pl.look fs p=some fs[k]:=by
 unfold jW;cases e:pC fs p with
 |none=>left;refine⟨rfl,?_⟩;unfold pC at e;unfold Pl.look;rw[Zg]at e;rw[ZW];intro x g;simpa using e x g
 |some k=>right;unfold pC at e;rw[YM]at e;have⟨a,d,c⟩:=e;refine⟨k,a,rfl,?_⟩;unfold Pl.look;rw[aa4];exact⟨d,k,a,rfl,λf b=>by simpa using c f b⟩
def MH(s c:aj)(B v:Nat)(K G J:az)(X:Wd)(w:ay)(h:RW w B v K G J X)(A:X.aW.length<=16777216):
 Calls prog 48 #[π v,aK s,aK c] w λe E=>e=.returned (.bool (h_ X.aW s c))/\μ w E:=by
 obtain⟨a,y,x,rfl,t,r,-⟩:=h.aW.rd;have I:=h.row.cell 0 (by simp);simp only[X6]at I;have g:=qg X.aW s a y x 0 w t r A;have f:=qg X.aW c a y x 0 w t r A;unfold aK at g f⊢;have i:Hid (h_ X.aW s c=match Pl.look X.aW s,Pl.look X.aW c with|some a,some b=>decide (a.jK<b.jK)|_,_=>false):=rfl;obtain⟨j,d⟩|⟨o,F,j,d⟩:=rA (fs:=X.aW) (p:=s)
 ·rw[j]at g;have n:Hid (h_ X.aW s c=false):=by show _=_;rw[i.u,d]
  generalize jW X.aW c=z at*;go_in;go_wp2_with fail
  refine g.mono ?_;rintro e k⟨rfl,rfl⟩;go_wp2_with fail
  refine f.mono ?_;rintro e k⟨rfl,rfl⟩;go_wp2_with fail
  go_quiet (fail)
  go_wp2_with fail
  go_ret;exact⟨kz n.symm,Below.drewN (X5 _ _) _⟩
 rw[j]at g;obtain⟨l,m⟩|⟨q,D,l,m⟩:=rA (fs:=X.aW) (p:=c)
 ·rw[l]at f;have n:Hid (h_ X.aW s c=false):=by show _=_;rw[i.u,d,m]
  go_in;go_wp2_with fail
  refine g.mono ?_;rintro e k⟨rfl,rfl⟩;go_wp2_with fail
  refine f.mono ?_;rintro e k⟨rfl,rfl⟩;go_wp2_with fail
  go_quiet (fail)
  go_wp2_with fail
  go_ret;exact⟨kz n.symm,Below.drewN (X5 _ _) _⟩
 rw[l]at f;have n:Hid (h_ X.aW s c=decide (X.aW[o].jK<X.aW[q].jK)):=by show _=_;rw[i.u,d,m]
 obtain rfl:=t (by omega);obtain⟨-,-,H⟩:=r o F;obtain⟨-,-,C⟩:=r q D;simp only[YO]at H C;generalize X.aW[o].jK=N at*;generalize X.aW[q].jK=L at*
 go_in;go_wp2_with fail
 refine g.mono ?_;rintro e k⟨rfl,rfl⟩;go_wp2_with fail
 refine f.mono ?_;rintro e k⟨rfl,rfl⟩;go_wp2_with fail
 go_quiet (fail)
 go_wp2_with fail
 go_ret;exact⟨kz n.symm,Below.drewN (X5 _ _) _⟩
def Tryz.A6:(Tryz.prog.info? 89).map (λa=>(a.zero,a.size,a.bytes))=some (some (.agg #[ε,ε,ι 0]),3,40):=by kernel_rfl
def pD{b:Obj}{a:ib}(h:(q.alloc b).drew.grownBy f a):q.grownBy f a:=(YZ q b a).trans ⟨h.os,h.tape,h.output,h.size,h.block⟩
def gX(w:ay)(c:TypeId)(b:f')(a:Nat)(u:az)(h:b[a]?=some u):(w.alloc (.cells b.toArray c)).cell? ((⟨w.heap.size,0,none⟩:Addr).add a)=some u:=by
 obtain⟨d,rfl⟩:=Yl.1 h;have:=(aF.bq w c b).cell a d;have e:(⟨w.heap.size,0,none⟩:Addr).add a=⟨w.heap.size,a,none⟩:=by unfold Addr.add;split<;>simp_all
 rw[e];exact this
def Ha(a:fy)(k:Nat)(h:k<a.length):(a.take (k+1)).foldl Pl.bA []=Pl.bA ((a.take k).foldl Pl.bA []) a[k]:=by rw[Yn h,r'];rfl
def Cm(b:fy):∀(a:fy),(b.foldl Pl.bA a).length<=a.length+b.length:=by
 induction b with
 |nil=>intro a;simp
 |cons f e c=>
  intro a;rw[YP];have:=c (Pl.bA a f);have:(Pl.bA a f).length<=a.length+1:=by unfold Pl.bA;split<;>simp
  simp only[Ya];omega
def Af:fZ (c++[v])=fZ c++fP v:=by unfold fZ;simp
structure sd(w:ay)(ve vf:az)(aQ:Int)(aE:fy)(W:ay):Prop where
 rw:RW W (w.heap.size+1) w.heap.size ve vf (ς) ⟨aE,aQ,[],0⟩
 aP:μ w W
def RW.push{w:ay}{Y:ay}{f:aJ}(h:RW w m a g k i p)(c:w.grownBy Y k.ownBlock)(j:Y.ownsRow m 89 3 d (p.aW.length+1) (fZ p.aW++fP f)):
 RW (Y.ψ a 0 d) m a g d i ⟨p.aW++[f],p.aQ,p.aI,p.exit⟩:=by
 have b:=h.lt;refine⟨(h.row.grown c (cQ h.aW (N:=a) b)).set 0 d,?_,?_,b⟩
 ·unfold gp;rw[Af];have:(p.aW++[f]).length=p.aW.length+1:=by simp
  rw[this];exact cP j (cQ j b) 0 _
 have l:fJ Y m i p.aI:=by
  obtain e|e:=mc h.aI h.aW (by decide)
  ·exact Y' h.aI c (.inl e)
  exact Y' h.aI c (.inr e)
 exact cP l (cQ l b) 0 _
def sd.push{w:ay}{X Y:ay}{f:aJ}(h:sd w i g e c X)(a:X.grownBy Y g.ownBlock)(b:Y.ownsRow (w.heap.size+1) 89 3 d (c.length+1) (fZ c++fP f)):
 sd w i d e (c++[f]) (Y.ψ w.heap.size 0 d):=by refine⟨h.rw.push a b,?_⟩;have j:=h.aP.trans ⟨a.os,a.tape,a.output,a.size,λk l=>a.block k (by have:=h.rw.row.lt;omega) (cQ h.rw.aW (by omega))⟩;exact j.setCell (p:=η w.heap.size 0) ax _
def sd.aD(h:sd f d i e c q)(a:μ q n):sd f d i e c n:=⟨h.rw.aD a,h.aP.trans (a.mono (by have:=h.rw.row.lt;omega))⟩
def M2(c:fy)(a f:fY)(cap b j S R:Nat)(i:Int)(w:ay)(P:0<c.length->a=some ⟨b,j,none⟩)(U:eJ w b j c)(ad:b<w.heap.size)(hl:c.length<=8388608):
 Calls prog 43 #[.slice a c.length cap,.slice f S R,.int .i64 i] w λe Q=>e=.returned (.pointer (some ⟨w.heap.size,0,none⟩))/\
  ∃o vc,RW Q (w.heap.size+1) w.heap.size (.slice f S R) o vc (fK c i)/\Below w.heap.size w Q:=by
 have X:=aC P;have⟨i0,N,G,T,L⟩:=Y1 Tryz.A6;have ah:=aC N;have ai:=aC G;have aj:=aC T;have ab:=aC L;have ag:sd w (.slice f S R) (.slice none 0 0) i [] (w.alloc (.cells #[.slice none 0 0,.int .i64 i,.slice f S R,.slice none 0 0,.int .i64 0] 99)):=⟨⟨aF.bq w 99 [.slice none 0 0,.int .i64 i,.slice f S R,.slice none 0 0,.int .i64 0],gp.nil _ _,fJ.nil _ _,t' _⟩,ak w _⟩;go_in;go_wp2
 go_loopw [8] (λx wr=>∃(k:Nat) (o:az),x=.int .i64 k/\k<=c.length/\sd w (.slice f S R) o i ((c.take k).foldl Pl.bA []) wr) (λx _=>c.length-aV x)
 case atStart=>exact⟨0,_,rfl,Yh _,ag⟩
 obtain⟨k,o,rfl,ap,d⟩:=hrel;by_cases H:k<c.length
 ·obtain rfl:=X (by omega);have z:=U.aP d.aP ad;have⟨E,D,F⟩:=z k H;have q:=aC (Ha c k H);have ao:((c.take k).foldl Pl.bA []).length<=8388608:=by have:=Cm (c.take k) [];simp at this;omega
  obtain⟨av,cv,gv,rfl,C,s,-⟩:=d.rw.aW.rd;have g:=aC (λn=>qg ((c.take k).foldl Pl.bA []) c[k].aL av cv gv 0 (wr.drewN n) C s (by omega));have Z:=rA (fs:=(c.take k).foldl Pl.bA []) (p:=c[k].aL);have A:=d.rw.row.cell 0 (by simp);simp only[X6]at A;generalize O:c[k]=Y at*;generalize (c.take k).foldl Pl.bA []=t at*;unfold aK at E D g
  obtain⟨l,m⟩|⟨ac,hj,l,m⟩:=Z
  ·rw[l]at g;have y:Hid ((c.take (k+1)).foldl Pl.bA []=t++[Y]):=by show _=_;rw[q.u];unfold Pl.bA;rw[m];rfl
   go_wp2
   go_quiet (first|(go_at_call 45;exact ZV ((g _).mono (λ_ _ h=>⟨h.1,h.2.symm⟩))))
   go_wp2
   have r:=d.aD (Below.drewN (X5 _ wr) nq);have q0:(wr.drewN nq).cell? ⟨b,j+k*3,none⟩=_:=E;have q1:(wr.drewN nq).cell? ⟨b,j+k*3+1,none⟩=_:=D;have q2:(wr.drewN nq).cell? ⟨b,j+k*3+2,none⟩=_:=F;have d0:(wr.drewN nq).cell? ⟨w.heap.size,0,none⟩=_:=A;have J:=r.rw.aW;have ar:=r.rw.row.lt;generalize wr.drewN nq=W2 at*;go_region_law (refine D_ rfl (.tmp 34) (.tmp 39) 22 rfl (w.heap.size+1) 89 i0 _ 3 40 A2 ah ai aj ab rfl (by decide) _ t.length _ (by simp[Act.eval]) (J.alloc _) ⟨_,0,none⟩ 1 1 (fP Y) (by simp[Act.eval]) rfl (gX _ _ (fP Y)) (by intro u M;simp[fP]at M;rcases M with rfl|rfl|rfl<;>rfl) (by unfold maxLen;omega) (by omega) (by simp;omega) ?_;intro v1 w1 v I;obtain⟨g1,am,rfl,an,aq⟩:=dv v (by omega);have V:=pD I;have B:=r.rw.row.grown V (cQ J (t' _));have W:=B.cell 0 (by simp);have h0:=B.frozen 0;simp only[X6]at W)
   all_goals go_wp2
   all_goals go_roundw
   all_goals first
    |exact⟨k+1,_,by go_num,by omega,by rw[y.u];exact r.push V v⟩
    |(simp only[aV];omega)
  rw[l]at g;have y:Hid ((c.take (k+1)).foldl Pl.bA []=t):=by show _=_;rw[q.u];unfold Pl.bA;rw[m];rfl
  go_wp2
  go_quiet (first|(go_at_call 45;exact ZV ((g _).mono (λ_ _ h=>⟨h.1,h.2.symm⟩))))
  go_wp2
  go_roundw
  case rel=>exact⟨k+1,_,by go_num,by omega,by rw[y.u];exact d.aD (Below.drewN (X5 _ _) _)⟩
  simp only[aV];omega
 have K:c.take k=c:=YF (by omega);rw[K]at d;go_wp2
 go_ret;exact⟨rfl,_,_,d.rw,d.aP⟩
def aF.JD{w:TypeId}(h:aF f a w [d,i,g,k,l]):
 f.cell? ⟨a,0,none⟩=some d/\f.cell? ⟨a,1,none⟩=some i/\f.cell? ⟨a,2,none⟩=some g/\f.cell? ⟨a,3,none⟩=some k/\f.cell? ⟨a,4,none⟩=some l:=by unfold aF at h;simp[World.cell?,h]
def Ur(h:Pl.look c v.aL=none):fR c v=c++[v]:=by
 induction c with
 |nil=>rfl
 |cons e d a=>
  unfold Pl.look at h;rw[Zt]at h;split at h
  ·cases h
  rename_i b;unfold fR;rw[Yb (by rw[b];decide),a h];rfl
def Ux:∀{k:Nat} (a:k<c.length),c[k].aL=v.aL->(∀b (h:b<k),c[b].aL≠v.aL)->fR c v=c.set k v:=by
 induction c with
 |nil=>intro k a;simp at a
 |cons j i g=>
  intro k a d e;unfold fR;cases k with
  |zero=>rw[Yd (by simpa using d)];rfl
  |succ k=>rw[Yb (by simpa using e 0 (by omega)),Y0,g (k:=k) (by simpa using a) (by simpa using d) (λb l=>by simpa using e (b+1) (by omega))]
def VX{fs:fy}{f:aJ}:(jW fs f.aL= -1/\fR fs f=fs++[f])\/∃(k:Nat) (_:k<fs.length),jW fs f.aL=k/\fR fs f=fs.set k f:=by
 unfold jW;cases e:pC fs f.aL with
 |none=>left;refine⟨rfl,Ur ?_⟩;unfold pC at e;unfold Pl.look;rw[Zg]at e;rw[ZW];intro x h;simpa using e x h
 |some k=>right;unfold pC at e;rw[YM]at e;have⟨a,d,c⟩:=e;exact⟨k,a,rfl,Ux a (by simpa using d) (λg b=>by simpa using c g b)⟩
theorem Hw:∀(c S:fv),c.Nodup->(∀b∈c,b∈S)->c.length<=S.length
 |[],_,_,_=>Yh _
 |a::i,S,h,g=>by have⟨k,j⟩:=sT.1 h;have f:=g a (by simp);have:=Hw i (S.erase a) j (λb d=>(acf (show b≠a from λe=>k (by rw[<-e];exact d))).2 (g b (by simp[d])));rw[aeD f]at this;have:=ae5 f;simp only[Ya];omega
def Fit(S:fv)(a:fy):Prop:=nJ a/\∀b∈a.map (·.aL),b∈S
def Fit.len(h:Fit w c):c.length<=w.length:=by have:=Hw _ w h.1 h.2;simpa using this
def Fit.put{f:aJ}(h:Fit w c)(d:f.aL∈w):Fit w (fR c f):=by
 refine⟨R6 h.1,λb a=>?_⟩;rw[Hu]at a;split at a
 ·exact h.2 b a
 simp only[Yv,Yc]at a;obtain a|rfl:=a
 ·exact h.2 b a
 exact d
def Fit.add(h:Fit w c)(d:v.aL∈w):Fit w (Pl.bA c v):=by
 refine⟨RZ h.1,λb a=>?_⟩;unfold Pl.bA at a;split at a
 ·exact h.2 b a
 simp only[Yy,YE,Z9,Yv,Yc]at a;obtain a|rfl:=a
 ·exact h.2 b a
 exact d
def kQ(w W:ay):Prop:=∀(k:Nat) (a:hZ) (e:TypeId) (b:Nat×Nat),w.heap[k]?=some (Obj.cells a e b)->e≠89->e≠9->e≠99->W.heap[k]?=w.heap[k]?
def kQ.refl(w:ay):kQ w w:=λ_ _ _ _ _ _ _ _=>rfl
def kQ.cY(h:kQ q n)(b:ib)(p:∀k,k<n.heap.size->some k≠b->u.heap[k]?=n.heap[k]?)(o:∀k,b=some k->∃d e f,n.heap[k]?=some (.cells d e f)/\(e=89\/e=9\/e=99)):kQ q u:=λk d e f g m i j=>by
 have c:=h k d e f g m i j;have w:k<n.heap.size:=by rw[g]at c;exact(X8.1 c).1
 rw[p k w (λZ=>?_),c];have⟨s,r,t,l,a⟩:=o k Z.symm;rw[c,g]at l;cases l;obtain a|a|a:=a
 ·exact m a
 ·exact i a
 exact j a
def kQ.aD(h:kQ f q)(a:μ q n):kQ f n:=h.cY none (λk b _=>a.block k b) (λ_ e=>by cases e)
def dZ(h:f.ownsRow m o r i s j):∀k,i.ownBlock=some k->∃a d,f.heap[k]?=some (.cells a o d):=by
 intro k b;obtain⟨rfl,_⟩|⟨B,e,a,rfl,_,c,_⟩:=h.2
 ·cases b
 cases b;exact⟨a,_,c⟩
def kQ.set{w Y:ay}(h:kQ w Y)(g:∃c e d,Y.heap[a]?=some (.cells c e d)/\(e=89\/e=9\/e=99))(b:Nat)(u:az):kQ w (Y.ψ a b u):=h.cY (some a) (λk _ f=>Ys Y (η a b) u k (λe=>f (by rw[show k=a from e]))) (λk e=>by cases e;exact g)
def kQ.bG{Y:ay}{B:Nat}(h:kQ f Y)(n:Y.ownsRow B a m d o j)(v:a=89\/a=9\/a=99)(i:Y.grownBy q d.ownBlock):kQ f q:=h.cY d.ownBlock i.block (λk c=>by have⟨Z,b,g⟩:=dZ n k c;exact⟨Z,a,b,g,v⟩)
def RW.KW(h:RW f m a d i g p):∃b e c,f.heap[a]?=some (.cells b e c)/\(e=89\/e=9\/e=99):=⟨_,_,_,h.row,.inr (.inr rfl)⟩
structure iI(w:ay)(B bx:Nat)(ve vf vc:az)(X:Wd)(W:ay):Prop where
 rw:RW W B bx ve vf vc X
 aP:Below bx w W
 kept:kQ w W
def iI.aD{vc:az}(h:iI f m a d i vc p q)(b:μ q n):iI f m a d i vc p n:=⟨h.rw.aD b,h.aP.trans (b.mono (lg h.rw.row.lt)),h.kept.aD b⟩
def Gp(h:Below a f q)(g:a<q.heap.size)(Y:a<m)(c:q.ownsRow m o r d s j)(b:q.grownBy n d.ownBlock):Below a f n:=h.trans ⟨b.os,b.tape,b.output,b.size,λk X=>b.block k (by omega) (cQ c (by omega))⟩
def iI.Wi{X:Wd}(h:iI f m a i g k X q)(b:q.grownBy n g.ownBlock)(c:n.ownsRow m 89 3 d (X.aW.length+1) (fZ X.aW++fP v)):
 iI f m a i d k ⟨X.aW++[v],X.aQ,X.aI,X.exit⟩ (n.ψ a 0 d):=
 ⟨h.rw.push b c,(Gp h.aP h.rw.row.lt h.rw.lt h.rw.aW b).setCell (p:=η a 0) ax _,(h.kept.bG h.rw.aW (.inl rfl) b).set ⟨_,_,_,h.rw.row.grown b (cQ h.rw.aW h.rw.lt),.inr (.inr rfl)⟩ _ _⟩
def iI.oh{B cap g:Nat}{X:Wd}{Y:ay}(h:iI f B a i (ξ g X.aW.length cap) d X Y)(k:Nat)(n:k<X.aW.length)(w:aJ):
 iI f B a i (ξ g X.aW.length cap) d ⟨X.aW.set k w,X.aQ,X.aI,X.exit⟩ (((Y.ψ g (k*3) (aK w.aL)).ψ g (k*3+1) (aK w.aU)).ψ g (k*3+2) (ι w.jK)):=by
 have l:=h.rw.lt;have:=(h.rw.aW.lt g rfl).1;have c:some g≠d.ownBlock:=by
  obtain e|e:=mc h.rw.aI h.rw.aW (by decide)
  ·rw[e];simp
  exact λq=>e (by rw[<-q];rfl)
 refine⟨⟨((h.rw.row.dI (by omega) _ _).dI (by omega) _ _).dI (by omega) _ _,?_,cP (cP (cP h.rw.aI c _ _) c _ _) c _ _,l⟩,
  ((h.aP.setCell (p:=η g (k*3)) (by show a<=g;omega) _).setCell (p:=η g (k*3+1)) (by show a<=g;omega) _).setCell (p:=η g (k*3+2)) (by show a<=g;omega) _,?_⟩
 ·exact h.rw.aW.set k n w
 refine h.kept.cY (some g) (λb _ t=>?_) (λb e=>by cases e;have⟨s,m,o⟩:=dZ h.rw.aW g rfl;exact⟨s,_,m,o,.inl rfl⟩);have j:b≠g:=λe=>t (by rw[e]);rw[Ys _ (η g (k*3+2)) _ b j,Ys _ (η g (k*3+1)) _ b j,Ys _ (η g (k*3)) _ b j]
def iI.WX{X:Wd}{c:aj}(h:iI f m a g i k X q)(b:q.grownBy n k.ownBlock)(l:n.ownsRow m 9 1 d (X.aI.length+1) (X.aI.map aK++[aK c])):
 iI f m a g i d ⟨X.aW,X.aQ,X.aI++[c],X.exit⟩ (n.ψ a 3 d):=by
 have Z:=h.rw.lt;have B:=cQ h.rw.aI (N:=a) Z;refine⟨⟨(h.rw.row.grown b B).set 3 d,?_,?_,Z⟩,(Gp h.aP h.rw.row.lt Z h.rw.aI b).setCell (p:=η a 3) ax _,(h.kept.bG h.rw.aI (.inr (.inl rfl)) b).set ⟨_,_,_,h.rw.row.grown b B,.inr (.inr rfl)⟩ _ _⟩
 ·have j:gp n m i X.aW:=by
   obtain e|e:=mc h.rw.aW h.rw.aI (by decide)
   ·exact Y' h.rw.aW b (.inl e)
   exact Y' h.rw.aW b (.inr e)
  exact cP j (cQ j Z) 3 _
 unfold fJ;simp only[X4,Ya,Yr,Yy,YE,Z9];exact cP l (cQ l Z) 3 _
def iI.aQ{X:Wd}(h:iI f m a d i g X q)(z:Int):iI f m a d i g ⟨X.aW,z,X.aI,X.exit⟩ (q.ψ a 1 (ι z)):=⟨⟨h.rw.row.set 1 _,cP h.rw.aW (cQ h.rw.aW h.rw.lt) 1 _,cP h.rw.aI (cQ h.rw.aI h.rw.lt) 1 _,h.rw.lt⟩,h.aP.setCell (p:=η a 1) ax _,h.kept.set h.rw.KW _ _⟩
def iI.exit{X:Wd}(h:iI f m a d i g X q)(z:Int):iI f m a d i g ⟨X.aW,X.aQ,X.aI,z⟩ (q.ψ a 4 (ι z)):=⟨⟨h.rw.row.set 4 _,cP h.rw.aW (cQ h.rw.aW h.rw.lt) 4 _,cP h.rw.aI (cQ h.rw.aI h.rw.lt) 4 _,h.rw.lt⟩,h.aP.setCell (p:=η a 4) ax _,h.kept.set h.rw.KW _ _⟩
def RW.cells(h:RW f m a d i g p):f.cell? ⟨a,0,none⟩=some i/\f.cell? ⟨a,1,none⟩=some (ι p.aQ)/\f.cell? ⟨a,2,none⟩=some d/\f.cell? ⟨a,3,none⟩=some g/\f.cell? ⟨a,4,none⟩=some (ι p.exit):=h.row.JD


