/- . -/
import Derived.Test.YtjelacjggijmfaaGreatDoorYWRB
import Derived.Lib.AppendZerosOnto
set_option linter.all false
set_option maxHeartbeats 4000000
set_option maxRecDepth 100000
namespace Go.Proofs.YtjelacjggijmfaaGreatDoor
open Pl Mk Cp Proofs.Tryz
open RowKit MapKept ChangeMaps Maps
variable {d g i k:ay}{a b j l n m o c e h:Nat}{f r:fv}{p q:az}{s t:fY}{u:f'}
def Tryz.R5:(Tryz.prog.info? 206).map (λa=>(a.zero,a.size,a.bytes))=some (some (.agg #[ε,.bool false,ς,ς,ε,ς]),6,112):=by kernel_rfl
structure DN(x:cI):Prop where
 aI:x.aI.length<=2000000000
 XT:∀c∈x.aI,c.1.length<=1073741824
 join:(Lib.join x.aH [32]).length<=1073741824
 aH:x.aH.length<=1073741824
 first:(x.aH.headD []).length<=1073741824
 name:x.name.length<=1073741824
 stem:x.stem.length<=1073741824
structure xv(W:ay)(N:aj->Nv)(aT:List cI)(i k:Nat)(aE:List cj)(sv:az)(wr:ay):Prop where
 aP:μ W wr
 bG:∃c,wr.ownsRow W.heap.size 206 6 sv aE.length c/\kx wr W.heap.size aE c
 mq:∀R,jB N (aT.drop i) k aE R->jB N aT 0 [] R
 len:aE.length=i
structure xF(ws:ay)(N:aj->Nv)(sg:UInt8->jj)(aI:List (aj×Nat))(k0 j k:Nat)(aE:fv)(cv:az)(w:ay):Prop where
 aP:μ ws w
 bG:w.ownsRow ws.heap.size 9 1 cv aE.length (aE.map aK)
 mq:∀R,j9 N sg (aI.drop j) k aE R->j9 N sg aI k0 [] R
 len:aE.length<=j
def xv.next{N:aj->Nv}{B:List cI}{z:List cj}{x:cI}{F:Obj}{E am:fY}(v6:xv k N B b c z p g)(aa:B.drop b=x::B.drop (b+1))(v:μ g d)(U:j9 N x.sg x.aI c [] (.inr (o,f)))(I:d.ownsRow e 9 1 (.slice s f.length j) f.length (f.map aK))(X:kx g k.heap.size z u)(K:g.ownsRow k.heap.size 206 6 p z.length u)(A:(d.alloc F).grownBy i p.ownBlock)(ac:i.ownsRow k.heap.size 206 6 q (z.length+1) (u++[aK x.name,.bool x.ph,.slice E x.aH.length l,.slice am n m,aK x.stem,.slice s f.length j]))(no:0<x.aH.length->E=some ⟨a,h,none⟩/\a<k.heap.size/\eE k a h x.aH):
 xv k N B (b+1) o (z++[⟨x.name,x.ph,x.aH,x.stem,f⟩]) q i:=by
 have:(d.alloc F).heap.size=d.heap.size+1:=X_ _ _;have:=v6.aP.size;have:=v.size;have:=A.size;have key:∀J,J<d.heap.size->some J≠p.ownBlock->i.heap[J]?=d.heap[J]?:=λJ Z Q=>(A.block J (by omega) Q).trans (Z0 d F J Z);have L:∀J,J<k.heap.size->some J≠p.ownBlock:=λJ H W=>by have:=(K.lt J W.symm).1;omega
 have M:∀(J:Nat) (r:hZ) (t:Nat×Nat),J<d.heap.size->d.heap[J]?=some (Obj.cells r 9 t)->some J≠p.ownBlock:=λJ r t H w W=>by have⟨c1,f1,C⟩:=dZ K J W.symm;rw[v.block J (K.lt J W.symm).2,C]at w;cases w
 have G:=v6.aP.trans ⟨A.os.trans v.os,A.tape.trans v.tape,A.output.trans v.output,by omega,λJ H=>(key J (by omega) (L J H)).trans (v.block J (by omega))⟩;refine⟨G,⟨_,by rw[X4];exact ac,kx.gC _ _ _ _ (kx.same (by omega) (λJ H=>(key J (by omega) (L J H)).trans (v.block J (by omega))) (λJ r t W=>?_) _ _ X) ?_⟩,λT hR=>v6.mq T (by rw[aa];exact⟨_,U,hR⟩),by rw[X4,v6.len];rfl⟩
 ·have H:=(X8.1 W).1;have e':d.heap[J]?=some (Obj.cells r 9 t):=(v.block J H).trans W;exact(key J (by omega) (M J r t (by omega) e')).trans (v.block J H)
 by_cases O:0<f.length
 ·have⟨D,cap,R,ag,P⟩:=dv I O;cases R;have⟨r,t,w⟩:=dZ I D rfl;have C:=key D P (M D r t P w);refine⟨E,_,am,l,j,a,h,D,0,n,m,rfl,λW=>⟨(no W).1,(no W).2.1,(no W).2.2.aP G (no W).2.1⟩,λ_=>⟨rfl,by omega,⟨r,t,C.trans w⟩,λS y V=>?_⟩⟩;rw[Hj C,YO];have⟨Y,ab⟩:=Yl.1 V;rw[lI I S (by simpa using Y),YT,ab]
 exact⟨E,s,am,l,j,a,h,0,0,n,m,rfl,λW=>⟨(no W).1,(no W).2.1,(no W).2.2.aP G (no W).2.1⟩,λW=>absurd W O⟩
def Ua(a b:aj)(g:Bool)(x y z:fY)(d e f j i h:Nat):∀u∈[σ a,.bool g,.slice x d e,.slice y f j,σ b,.slice z i h],u.oneCell' =true:=λu c=>by simp only[YD,ZC,k8]at c;rcases c with rfl|rfl|rfl|rfl|rfl|rfl<;>rfl
def VW(W:ay)(N:aj->Nv)(g:List cI)(e:Ending)(a:ay):Prop:=∃f,jB N g 0 [] f/\Below W.heap.size W a /\(match f with| .inl (i,h)=>e=.returned (.tuple #[.slice none 0 0,.int .i64 (i:Nat),.int .i64 (h:Nat)])| .inr (k,b)=>(500<k/\e=.returned (.tuple #[.slice none 0 0,.int .i64 5,.int .i64 0]))\/(k<=500/\∃d c,e=.returned (.tuple #[d,.int .i64 0,.int .i64 0])/\a.ownsRow W.heap.size 206 6 d b.length c/\kx a W.heap.size b c))
def NX(f:List cI)(a:fY)(cap E o0 nm:Nat)(L:NL)(W:ay)(ha:0<f.length->a=some ⟨E,o0,none⟩)(a9:E<W.heap.size)(hr:∀d (h:d<f.length),D4 W W.heap.size E (o0+d*5) f[d])(hN:bF W nm (ja L))(a7:mh L)(hg:dq W)(hl:f.length<=1000)(hB:∀x∈f,DN x):
 Calls prog 66 #[.slice a f.length cap,.map (some nm)] W (VW W (di L) f):=by
 have⟨i0,bk,a4,bl,bg⟩:=Y1 Tryz.R5;have⟨i1,a2,bj,aQ,a6⟩:=Y1 Tryz.kZ;have HA:=aC ha;have aw:xv W (di L) f 0 0 [] (ς) W:=⟨X5 _ _,⟨[],YG _ _ _ _,rfl⟩,λn h=>h,rfl⟩;go_in;go_wp2
 go_loopw [7,8,19] (λsv kv iv wr=>∃(d k:Nat) (V:List cj),iv=ι d/\kv=ι k/\d<=f.length/\k<=d*2000000000/\Hid (xv W (di L) f d k V sv wr)) (λ_ _ iv _=>f.length-aV iv)
 case atStart=>exact⟨0,0,[],rfl,rfl,by omega,by omega,aw⟩
 obtain⟨d,k,V,rfl,rfl,bs,hk,w⟩:=hrel;by_cases hi:d<f.length
 ·have t1:(d:Int)<f.length:=by omega
  have t0:(0:Int)<=d:=by omega
  obtain rfl:=HA (by omega);have⟨J,X,I,H,nb,no,mb,mo,ap,aR,aS,iX⟩:=hr d hi;have bm:=hB f[d] (Ym hi);have O:=w.aP;have aL:=Yu hi;have F:∀(g:Nat) (u:az),[aK f[d].name,.bool f[d].ph,.slice J f[d].aH.length I,.slice X f[d].aI.length H,aK f[d].stem][g]?=some u->wr.χ E (o0+d*5+g)=some u:=λg u N=>(O.cell (p:=η E _) a9).trans (ap g u N);have g0:wr.χ E (o0+d*5)=some (aK f[d].name):=F 0 _ rfl;have g1:=F 1 _ rfl;have g2:=F 2 _ rfl;have g3:=F 3 _ rfl;have g4:=F 4 _ rfl;have aB:=aC aL;generalize hx:f[d]=x at*;obtain⟨name,l,i,m,b⟩:=x;obtain⟨m1,m2,m3,m4,m5,m6,m7⟩:=bm;dsimp only at*;have S:=aC aS;have bn:=aC iX;have q1:=(X5 wr.heap.size wr).alloc ax (.cells #[aK name,.bool l,.slice J i.length I,.slice X b.length H,aK m] 197);have RB:=aF.bq wr 197 [aK name,.bool l,.slice J i.length I,.slice X b.length H,aK m];have CG:=Of name m l i J X I nb no b.length H (wr.alloc (.cells #[aK name,.bool l,.slice J i.length I,.slice X b.length H,aK m] 197)) (λe=>⟨(S e).1,(S e).2.2.aP (O.tr q1) (S e).2.1⟩) (λe=>Yo (S e).2.1 (Ye O.size q1.size)) aR m3 m4;have bc:=O.size;unfold s_ aK at*;go_wp2_with (go_at_call 93;refine CG.mono ?_;rintro e B⟨s1,s2,s3,rfl,aq,af⟩;have ar:=q1.tr af;have ak:=RB.aD af;have d3:=ak.cell? (i:=3) rfl;unfold xt)
  have ad:=w.aP.trans (ar.mono bc);have a3:=hN.aP ad hN.lt;have bf:=hg.aD ad;have bh:=aq.xA.lt;have aW:=aq.first.lt;have aO:=aq.all.lt;have aJ:xF B (di L) (cI.sg ⟨name,l,i,m,b⟩) b k 0 k [] (ς) B:=⟨X5 _ _,YG _ _ _ _,λn h=>h,X0 _⟩;go_loopw [8,12,28] (λkv cv jv wi=>∃(g j:Nat) (s:fv),jv=ι g/\kv=ι j/\g<=b.length/\j <=k+g/\Hid (xF B (di L) (cI.sg ⟨name,l,i,m,b⟩) b k g j s cv wi)) (λ_ _ jv _=>b.length-aV jv)
  case atStart=>exact⟨0,k,[],rfl,rfl,by omega,by omega,aJ⟩
  obtain⟨g,j,s,rfl,rfl,bB,br,o⟩:=hrel;by_cases N:g<b.length
  ·have u1:(g:Int)<b.length:=by omega
   have u0:(0:Int)<=g:=by omega
   obtain⟨rfl,bo,au⟩:=bn (by omega);have a':=ad.tr o.aP;have⟨ct,cl⟩:=au.aP a' bo g b[g] (X9 N);have aA:=Yu N;have aG:=m2 b[g] (Ym N);have Z:=aC aA;generalize hc:b[g]=c at*;obtain⟨P,D⟩:=c;dsimp only at ct cl aG;have p1:=(X5 wr.heap.size wr).alloc ax (.cells #[aK P,ι D] 202);have z:=o.aP.tr p1;have RC:=aC (aF.bq wr 202 [aK P,ι D]);have a0:=aC z;have CE:=aC (Fg nm (xt s1 s2 s3) L (cI.sg ⟨name,l,i,m,b⟩) _ P (wr.alloc (.cells #[aK P,ι D] 202)) (λc h1 h2=>Vz c s1 s2 s3 (wr.alloc (.cells #[aK P,ι D] 202)).heap.size name (i.headD []) (Lib.join i [32]) m l _ _ (Yo bh z.size) (Yo aW z.size) (Yo aO z.size) h1 h2 m6 m5 m3 m7) (λW' hb=>aq.aD (z.tr hb)) a7 (a3.aD z) (bf.aD z) aG);have bA:=o.len;unfold xt aK at*;go_upto_region 12 with(first|(go_at_call 94;refine CE.mono ?_;rintro e w4⟨bd,al,rfl,a_,T⟩;have ab:=aC al;have aa:=aC (a0.tr T);have bp:=aC (RC.aD T);have G:=aC (bI o.bG (λq r=>by have:=(o.bG.lt q r).2;exact(T.block q (by rw[X_];omega)).trans (Z0 wr _ q this)));have bu:=bp.cell? (i:=1) rfl;unfold mB))
   obtain⟨v,K,rf⟩:=bd;dsimp only at a_;dsimp only;by_cases av:K=0
   ·subst av;have A:Hid (γ 95 #[σ v] w4 (σ (Mk.cut v))):=uP ⟨v.toArray⟩ w4 (by show v.length<=_;omega);have u7:(j:Int)<=100000000000000:=by omega
    cases hcut:Mk.cut v with
    |nil=>
     rw[hcut]at A;have U:=aC hcut;go_wp2_with (go_at_call 95;refine κ A λw5 t=>?_;have ah:Hid (xF B (di L) (cI.sg ⟨name,l,i,m,b⟩) b k (g+1) j s u12 w5):=⟨aa.tr t,bI G (λq r=>t.block q (G.lt q r).2),λn h=>o.mq n (by rw[Z.u];exact⟨_,ab,by rw[Yb (by simp),Yd U.u];exact h⟩),by omega⟩)
     go_roundw
     case rel=>exact⟨g+1,j,s,by go_num,rfl,by omega,by omega,ah⟩
     simp only[aV];omega
    |cons y ys=>
     have U:Hid (¬Mk.cut v=[]):=by show ¬Mk.cut v=[];rw[hcut];simp
     rw[hcut]at A;by_cases Y:j +1<=500
     ·have u6:(j:Int)+1<=500:=by omega
      have ai:∀n,j9 (di L) (cI.sg ⟨name,l,i,m,b⟩) (b.drop (g+1)) (j +1) (s ++[v]) n->j9 (di L) (cI.sg ⟨name,l,i,m,b⟩) b k [] n:=λn h=>o.mq n (by rw[Z.u];exact⟨_,ab,by rw[Yb (by simp),Yb U.u,Yd Y];exact h⟩);go_wp2_with (first|(go_at_call 95;refine κ A λw5 t=>?_;have ac:=aC (aa.tr t);have ao:=aC (bI G (λq r=>t.block q (G.lt q r).2)))|(at_builtin;refine YS _ rfl (.tmp 52) (.tmp 54) 30 rfl B.heap.size 9 i1 (ε) 1 16 YU a2 bj aQ a6 rfl (by decide) _ s.length _ rfl (Yz ao _) (η _ 0) 1 1 [σ v] rfl rfl (gX _ _ [_]) (uI) (by unfold maxLen;omega) (by omega) (by have:=ac.size;rw[X_];omega) ?_;intro v6 w6 M R _ _;have a8:Hid (xF B (di L) (cI.sg ⟨name,l,i,m,b⟩) b k (g+1) (j +1) (s ++[v]) v6 w6):=⟨(ac.alloc ac.size (.cells #[σ v] 9)).trans ((Tn.grown (p:=λq=>B.heap.size<=q) R (λq r=>(ao.lt q r).1)).aP (by have:=ac.size;rw[X_];omega) (λq r=>r)),by rw[X4,Yy];exact M,ai,by rw[X4,Yx];omega⟩))
      go_roundw
      case rel=>exact⟨g+1,j +1,_,by go_num,by go_num,by omega,by omega,a8⟩
      simp only[aV];omega
     have u6:¬(j:Int)+1<=500:=by omega
     have ai:∀n,j9 (di L) (cI.sg ⟨name,l,i,m,b⟩) (b.drop (g+1)) (j +1) s n->j9 (di L) (cI.sg ⟨name,l,i,m,b⟩) b k [] n:=λn h=>o.mq n (by rw[Z.u];exact⟨_,ab,by rw[Yb (by simp),Yb U.u,Yb Y];exact h⟩);go_wp2_with (go_at_call 95;refine κ A λw5 t=>?_;have ah:Hid (xF B (di L) (cI.sg ⟨name,l,i,m,b⟩) b k (g+1) (j +1) s u12 w5):=⟨aa.tr t,bI G (λq r=>t.block q (G.lt q r).2),ai,by omega⟩)
     go_roundw
     case rel=>exact⟨g+1,j +1,s,by go_num,by go_num,by omega,by omega,ah⟩
     simp only[aV];omega
   have u5:¬(K:Int)=0:=by omega
   have aZ:Hid (∃n,jB (di L) f 0 [] n/\n=.inl (K,D)):=⟨.inl (K,D),w.mq _ (by rw[aB.u];exact⟨.inl (K,D),o.mq _ (by rw[Z.u];exact⟨_,ab,by rw[Yd av]⟩),rfl⟩),rfl⟩;go_wp2
   go_region
   all_goals go_wp2
   all_goals go_ret3
   all_goals
    obtain⟨n,hR,rfl⟩:=aZ;exact⟨_,hR,(ad.tr aa).drew,rfl⟩
  have bi:g=b.length:=by omega
  subst bi;have u1:¬(b.length:Int)<b.length:=by omega
  have aN:=o.mq _ (by rw[ub];rfl);have⟨ca,cc,ba⟩:=fp o.bG;subst ba;have RW:=ak.aD o.aP;have d0:=RW.cell? (i:=0) rfl;have d1:=RW.cell? (i:=1) rfl;have d2:=RW.cell? (i:=2) rfl;have bw:=RW.cell? (i:=3) rfl;have d4:=RW.cell? (i:=4) rfl;have⟨c,C,Q⟩:=w.bG;have ag:=ar.tr o.aP;have be:=bI C (λq r=>ag.block q (C.lt q r).2);have bt:=w.len;have bz:=ag.size;go_wp2_with (at_builtin;refine YS _ rfl (.tmp 57) (.tmp 61) 133 rfl W.heap.size 206 i0 _ 6 112 underlying133 bk a4 bl bg rfl (by decide) _ V.length _ rfl (Yz be _) (η _ 0) 1 1 [σ name,.bool l,.slice J i.length I,.slice X b.length H,σ m,.slice ca s.length cc] rfl rfl (gX _ _ _) (Ua _ _ _ _ _ _ _ _ _ _ _ _) (by unfold maxLen;omega) (by omega) (by rw[X_];omega) ?_;intro v6 w6 M R _ _;have bb:=w.next (x:=⟨name,l,i,m,b⟩) aB ag aN o.bG Q C R M S)
  go_roundw
  case rel=>exact⟨d+1,j,_,by go_num,rfl,by omega,by omega,bb⟩
  simp only[aV];omega
 have a1:d=f.length:=by omega
 subst a1;have t1:¬(f.length:Int)<f.length:=by omega
 have hR:=w.mq _ (by rw[ub];rfl);have⟨c,C,Q⟩:=w.bG;by_cases Y:500<k
 ·have u6:(500:Int)<k:=by omega
  go_wp2
  go_ret3
  exact⟨_,hR,w.aP,.inl ⟨Y,rfl⟩⟩
 have u6:¬(500:Int)<k:=by omega
 go_wp2
 go_ret3
 exact⟨_,hR,w.aP,.inr ⟨by omega,_,c,rfl,C,Q⟩⟩
def Ei(i f l:Nat)(n:az)(k:ga)(b:fy)(o:Int)(a:aj)(w:ay)(h:PW w i f l n k b o):
 Calls prog 87 #[π i,.string ⟨a.toArray⟩] w λe m=>e=.returned (match Pl.look b a with|some d=> .tuple #[.string ⟨d.aU.toArray⟩,.bool true]|none=> .tuple #[.string ⟨#[]⟩,.bool false])/\μ w m:=by
 have p:=h.row.cell 0 (by simp);simp only[X6]at p;have j:=h.aW;cases c:Pl.look b a with
 |some d=>
  have g:Hid (cG (dw b) a=some (fC d)):=by show _=_;rw[l_,c];rfl
  go_in;go_wp2_with (at_lookup;refine nh _ rfl _ _ 177 rfl 9 65 Ze Yj _ (lX) f (dw b) rfl j a rfl (fC d) g ?_;unfold fC)
  go_ret2
  exact⟨rfl,ak w _⟩
 |none=>
  have g:Hid (cG (dw b) a=none):=by show _=_;rw[l_,c];rfl
  go_in;go_wp2_with (at_lookup;refine nj _ rfl _ _ 177 rfl 9 65 Ze Yj _ (lX) f (dw b) rfl j a rfl g ?_)
  go_ret2
  exact⟨rfl,ak w _⟩
def dc(s:aj):Bool:=Lib.contains s [37]
def jz(s:aj):Bool:=decide (1<Lib.countByte s 37)
def eb(b a:aj):aj:=Lib.replaceAll b [37] a
def Ex(s:aj)(w:ay)(d:dq w)(g:s.length<=4294967200):Calls prog 227 #[.string ⟨s.toArray⟩] w λe a=>e=.returned (.bool (dc s))/\a =w:=by
 have⟨m,b⟩:=d;have c:Calls prog 140 #[.string ⟨s.toArray⟩,.string ⟨#[37]⟩] w λe a=>e=.returned (.bool (dc s))/\a =w:=Any.strings_Contains Tryz.Kt ⟨s.toArray⟩ ⟨#[37]⟩ m w (by show s.length<_;omega) b;go_in;go_wp2_with (go_at_call 140;refine c.mono ?_;rintro e f⟨rfl,rfl⟩)
 go_ret;exact⟨rfl,rfl⟩
def Ms(s:aj)(w:ay):Calls prog 226 #[.string ⟨s.toArray⟩] w λe a=>e=.returned (.bool (jz s))/\a =w:=by
 have d:Calls prog 266 #[.string ⟨s.toArray⟩,.string ⟨#[37]⟩] w λe a=>e=.returned (ι (Lib.countByte s 37))/\a =w:=Any.strings_Count_one Tryz.VY ⟨s.toArray⟩ 37 w;have c:jz s=decide (1<Lib.countByte s 37):=rfl;rw[c];generalize Lib.countByte s 37=n at*;have b:decide ((1:Int)<n)=decide (1<n):=by rw[T8];omega
 go_in;go_wp2_with (go_at_call 266;refine d.mono ?_;rintro e g⟨rfl,rfl⟩)
 go_ret;exact⟨by rw[<-(aC b).u];rfl,rfl⟩
def H'(a b:aj)(w:ay)(h:dq w)(k:a.length<=4294967200)(d:a.length+Lib.countB ⟨a.toArray⟩ ⟨#[37]⟩*b.length<=140737488355328):Calls prog 187 #[.string ⟨a.toArray⟩,.string ⟨b.toArray⟩] w λe c=>e=.returned (.string ⟨(eb a b).toArray⟩)/\μ w c:=by
 have⟨m,i⟩:=h;have f:Calls prog 235 #[.string ⟨a.toArray⟩,.string ⟨#[37]⟩,.string ⟨b.toArray⟩] w λe c=>e=.returned (.string ⟨(eb a b).toArray⟩)/\Below w.heap.size w c:=Any.strings_ReplaceAll Tryz.V8 Tryz.vI ⟨a.toArray⟩ ⟨#[37]⟩ ⟨b.toArray⟩ m w (by show a.length<_;omega) i (X0 1) d;go_in;go_wp2_with (go_at_call 235;refine f.mono ?_;rintro e j⟨rfl,g⟩)
 go_ret;exact⟨rfl,g⟩
def iS(b a:aj):aj×Bool:=
 if b.length<=(Mk.bo 37 a).length+(after 37 a).length then([],false)
 else(Lib.trimSuffix (Lib.trimPrefix b (Mk.bo 37 a)) (after 37 a),Lib.hasPrefix b (Mk.bo 37 a)&&Lib.hasSuffix (Lib.trimPrefix b (Mk.bo 37 a)) (after 37 a))
def El(s a:aj):(Lib.trimPrefix s a).length<=s.length:=by
 unfold Lib.trimPrefix;split
 ·rw[Zu];omega
 exact X0 _
def OQ(n d:aj)(w:ay)(p:dq w)(F:n.length<=1073741824)(t:d.length<=1073741824)(z:(Mk.bo 37 d).length<=1073741824)(x:(after 37 d).length<=1073741824):
 Calls prog 273 #[.string ⟨n.toArray⟩,.string ⟨d.toArray⟩] w λe c=>e=.returned (.tuple #[.string ⟨(iS n d).1.toArray⟩,.bool (iS n d).2])/\μ w c:=by
 have h:Calls prog 160 #[.string ⟨d.toArray⟩,.string ⟨#[37]⟩] w λe c=>e=.returned (.tuple #[.string ⟨(Mk.bo 37 d).toArray⟩,.string ⟨(after 37 d).toArray⟩,.bool (Mk.has 37 d)])/\Below w.heap.size w c:=vJ 37 ⟨d.toArray⟩ w (by show d.length<=_;omega) p;have f:Hid (iS n d=if n.length<=(Mk.bo 37 d).length+(after 37 d).length then([],false)
 else(Lib.trimSuffix (Lib.trimPrefix n (Mk.bo 37 d)) (after 37 d),Lib.hasPrefix n (Mk.bo 37 d)&&Lib.hasSuffix (Lib.trimPrefix n (Mk.bo 37 d)) (after 37 d))):=rfl
 generalize iS n d=S at*;generalize Mk.bo 37 d=A at*;generalize after 37 d=E at*;have k:∀w,Calls prog 126 #[.string ⟨n.toArray⟩,.string ⟨A.toArray⟩] w λe c=>e=.returned (.tuple #[.string ⟨(Lib.trimPrefix n A).toArray⟩,.bool (Lib.hasPrefix n A)])/\c =w:=λw=>Any.strings_CutPrefix Tryz.Kj ⟨n.toArray⟩ ⟨A.toArray⟩ w;have:=El n A;generalize Lib.trimPrefix n A=b at*;generalize Lib.hasPrefix n A=j at*;have l:∀w,Calls prog 291 #[.string ⟨b.toArray⟩,.string ⟨E.toArray⟩] w λe c=>e=.returned (.tuple #[.string ⟨(Lib.trimSuffix b E).toArray⟩,.bool (Lib.hasSuffix b E)])/\c =w:=λw=>Any.strings_CutSuffix Tryz.Vv ⟨b.toArray⟩ ⟨E.toArray⟩ w (by show b.length<=_;omega);generalize Lib.trimSuffix b E=r at*;generalize Lib.hasSuffix b E=q at*;have:(ByteArray.mk n.toArray).size=n.length:=rfl;have:(ByteArray.mk A.toArray).size=A.length:=rfl;have:(ByteArray.mk E.toArray).size=E.length:=rfl
 by_cases m:n.length<=A.length+E.length
 ·have:(n.length:Int)<=A.length+(E.length:Int):=by omega
  have g:Hid (S=([],false)):=by show S=_;rw[f.u,Yd m]
  go_in;go_wp2_with (go_at_call 160;refine h.mono ?_;rintro e i⟨rfl,a⟩)
  go_ret2
  exact⟨by rw[g.u];rfl,a⟩
 have:¬(n.length:Int)<=A.length+(E.length:Int):=by omega
 have g:Hid (S=(r,j&&q)):=by show S=_;rw[f.u,Yb m]
 cases j with
 |true=>
  go_in;go_wp2_with (first|(go_at_call 160;refine h.mono ?_;rintro e i⟨rfl,a⟩)|(go_at_call 126;refine(k _).mono ?_;rintro e s⟨rfl,rfl⟩)|(go_at_call 291;refine(l _).mono ?_;rintro e o⟨rfl,rfl⟩))
  go_ret2
  exact⟨by rw[g.u];rfl,a⟩
 |false=>
  go_in;go_wp2_with (first|(go_at_call 160;refine h.mono ?_;rintro e i⟨rfl,a⟩)|(go_at_call 126;refine(k _).mono ?_;rintro e s⟨rfl,rfl⟩)|(go_at_call 291;refine(l _).mono ?_;rintro e o⟨rfl,rfl⟩))
  go_ret2
  exact⟨by rw[g.u];rfl,a⟩
structure DT(W:ay)(stem:aj)(aH:fv)(i:Nat)(v:az)(wr:ay):Prop where
 aP:μ W wr
 bG:wr.ownsRow W.heap.size 9 1 v i ((aH.take i).map λn=>aK (eb n stem))
def MR(c:fv)(f:aj)(a:fY)(R b o:Nat)(W:ay)(D:0<c.length->a=some ⟨b,o,none⟩/\b<W.heap.size/\eE W b o c)(r:dq W)(M:c.length<=1073741824)(A:∀n∈c,n.length<=4294967200/\n.length+Lib.countB ⟨n.toArray⟩ ⟨#[37]⟩*f.length<=140737488355328):
 Calls prog 241 #[.slice a c.length R,.string ⟨f.toArray⟩] W λe s=>∃v,e=.returned v/\s.ownsRow W.heap.size 9 1 v c.length (c.map λn=>aK (eb n f))/\μ W s:=by
 have⟨N,X,G,L,O⟩:=Y1 Tryz.kZ;have t:DT W f c 0 (ς) W:=⟨X5 _ _,YG _ _ _ _⟩;go_in;go_wp2
 go_loopw [5,10] (λv l wr=>∃d:Nat,l=ι d/\d<=c.length/\DT W f c d v wr) (λ_ l _=>c.length-aV l)
 case atStart=>exact⟨0,rfl,by omega,t⟩
 obtain⟨d,rfl,Z,g⟩:=hrel;by_cases k:d<c.length
 ·have P:(d:Int)<c.length:=by omega
  obtain⟨rfl,H,B⟩:=(aC D).u (by omega);have K:=B.aP g.aP H d c[d] (X9 k);have⟨T,U⟩:=(aC A).u c[d] (Ym k);have m:(c.take (d+1)).map (λn=>aK (eb n f))=(c.take d).map (λn=>aK (eb n f))++[aK (eb c[d] f)]:=by rw[Yn k,Yy];rfl
  generalize c[d]=x at*;have z:=aC (H' x f wr (r.aD g.aP) T U);have E:=g.aP.size;unfold aK at*;go_wp2_with (first|(go_at_call 187;refine z.mono ?_;rintro e Y⟨rfl,i⟩;have S:=aC (g.aP.trans (i.mono E));have C:=aC (bI g.bG (λq h=>i.block q (g.bG.lt q h).2));have Q:=i.size)|(at_builtin;refine YS _ rfl (.tmp 14) (.tmp 18) 30 rfl W.heap.size 9 N (.string ⟨#[]⟩) 1 16 YU X G L O rfl (by decide) _ d _ rfl (Yz C _) ⟨_,0,none⟩ 1 1 [.string ⟨(eb x f).toArray⟩] rfl rfl (gX _ _ [_]) (uI) (by unfold maxLen;omega) (by omega) (by rw[X_];omega) ?_;intro J I y w _ _;have F:Hid (DT W f c (d+1) J I):=⟨(S.alloc (by omega) (.cells #[.string ⟨(eb x f).toArray⟩] 9)).trans ((Tn.grown (p:=λq=>W.heap.size<=q) w (λq h=>(C.lt q h).1)).aP (by rw[X_];omega) (λq h=>h)),by have:=(aC m).u;unfold aK;rw[this];exact y⟩))
  go_roundw
  case rel=>exact⟨d+1,by go_num,by omega,F⟩
  simp only[aV];omega
 have V:d=c.length:=by omega
 subst V;have P:¬(c.length:Int)<c.length:=by omega
 have j:=g.bG;rw[YR]at j;go_wp2
 go_ret;exact⟨_,rfl,j,g.aP⟩
def vz(b:ib):az:=match b with|some a=> .int .i64 (a:Int)|none=> .int .i64 (-1)
structure DO(W:ay)(f:aj->Bool)(xs:fv)(i:Nat)(wr:ay):Prop where
 aP:μ W wr
 no:∀x∈xs.take i,f x=false
def Mj(c:fv)(a:fY)(G b s h:Nat)(B:hZ)(f:aj->Bool)(W:ay)(O:∀args w,(callFunc h args).run prog w=.ok (.enter h args) w)(C:∀w,μ W w->∀x∈c,Calls prog h (#[.string ⟨x.toArray⟩]++B) w λe D=>e=.returned (.bool (f x))/\μ w D)(A:0<c.length->a=some ⟨b,s,none⟩/\b<W.heap.size/\eE W b s c)(R:c.length<=1073741824):
 Calls prog 264 #[.slice a c.length G,.func (.func h) #[] B] W λe N=>e=.returned (vz (c.findIdx? f))/\μ W N:=by
 have v:DO W f c 0 W:=⟨X5 _ _,by simp⟩;go_in;go_wp2
 go_loopw [8] (λp wr=>∃d:Nat,p=ι d/\d<=c.length/\DO W f c d wr) (λp _=>c.length-aV p)
 case atStart=>exact⟨0,rfl,by omega,v⟩
 obtain⟨d,rfl,P,g⟩:=hrel;by_cases l:d<c.length
 ·have I:(d:Int)<c.length:=by omega
  obtain⟨rfl,E,z⟩:=(aC A).u (by omega);have H:=z.aP g.aP E d c[d] (X9 l);have k:=C wr g.aP c[d] (Ym l);have y:=g.aP.size;have q:Hid (f c[d]=true->c.findIdx? f=some d):=λe=>by rw[YM];refine⟨l,e,λt S=>?_⟩;have:=g.no c[t] (adS.2 ⟨t,by rw[YL];omega,by rw[adq]⟩);rw[this];decide
  have o:Hid (f c[d]=false->∀x∈c.take (d+1),f x=false):=λe x m=>by
   rw[Yn l]at m;obtain F|F:=Yv.1 m
   ·exact g.no x F
   rw[Yc]at F;subst F;exact e
  unfold aK at H;generalize c[d]=x at*;cases i:f x with
  |true=>
   have n:=aC (q i);rw[i]at k;go_wp2_with (go_at_fn h;refine k.mono ?_;rintro e r⟨rfl,j⟩)
   go_ret;exact⟨by rw[n.u];rfl,g.aP.trans (j.mono y)⟩
  |false=>
   have n:=aC (o i);rw[i]at k;go_wp2_with (go_at_fn h;refine k.mono ?_;rintro e r⟨rfl,j⟩;have L:DO W f c (d+1) r:=⟨g.aP.trans (j.mono y),n⟩)
   go_roundw
   case rel=>exact⟨d+1,by go_num,by omega,L⟩
   simp only[aV];omega
 have M:d=c.length:=by omega
 subst M;have I:¬(c.length:Int)<c.length:=by omega
 have J:Hid (c.findIdx? f=none):=by show _=_;rw[Zg];exact λx m=>g.no x (by rw[YR];exact m)
 go_wp2
 go_ret;exact⟨by rw[J.u];rfl,g.aP⟩
def US{a:fv}(f:aj->Bool):a.any f=(a.findIdx? f).isSome:=by
 cases h:a.findIdx? f with
 |none=>rw[Zg]at h;rw[Option.isSome_none,pe];exact λx d=>by rw[h x d];decide
 |some e=>rw[YM]at h;obtain⟨c,b,-⟩:=h;rw[Option.isSome_some,Z1];exact⟨_,Ym c,b⟩
def zS(c:fv)(a:fY)(j b k g:Nat)(m:hZ)(f:aj->Bool)(W:ay)(p:∀args w,(callFunc g args).run prog w=.ok (.enter g args) w)(t:∀w,μ W w->∀x∈c,Calls prog g (#[.string ⟨x.toArray⟩]++m) w λe o=>e=.returned (.bool (f x))/\μ w o)(r:0<c.length->a=some ⟨b,k,none⟩/\b<W.heap.size/\eE W b k c)(q:c.length<=1073741824):
 Calls prog 221 #[.slice a c.length j,.func (.func g) #[] m] W λe v=>e=.returned (.bool (c.any f))/\μ W v:=by
 have d:=Mj c a j b k g m f W p t r q;rw[US];cases h:c.findIdx? f with
 |none=>
  rw[h]at d;unfold vz at d;go_in;go_wp2_with (go_at_call 264;refine d.mono ?_;rintro e n⟨rfl,i⟩)
  go_ret;exact⟨rfl,i⟩
 |some s=>
  rw[h]at d;unfold vz at d
  go_in;go_wp2_with (go_at_call 264;refine d.mono ?_;rintro e n⟨rfl,i⟩)
  go_ret;exact⟨by simp,i⟩
def lJ(b a:fv):Bool:=
 if b.length=0\/b.any jz=true\/a.any jz=true then false
 else if b.any dc=true then decide (b.length=1) else !(a.any dc)
def tY(W:ay)(c:fv)(a:fY):Prop:=∃b d,0<c.length->a=some ⟨b,d,none⟩/\b<W.heap.size/\eE W b d c
def tY.aD(h:tY g f s)(a:μ g d):tY d f s:=by have⟨b,i,c⟩:=h;exact⟨b,i,λe=>⟨(c e).1,Yo (c e).2.1 a.size,(c e).2.2.aP a (c e).2.1⟩⟩
def Gf(c:fv)(a:fY)(i:Nat)(W:ay)(h:tY W c a)(f:c.length<=1073741824):
 γ 221 #[.slice a c.length i,.func (.func 226) #[] #[]] W (.bool (c.any jz)):=by have⟨b,d,g⟩:=h;exact zS c a i b d _ _ jz W (mL func226 (by kernel_rfl) rfl) (λw _ x _=>(Ms x w).mono (λe j h=>⟨h.1,h.2▸X5 _ _⟩)) g f
def IQ(c:fv)(a:fY)(m:Nat)(W:ay)(h:tY W c a)(i:dq W)(k:c.length<=1073741824)(f:∀x∈c,x.length<=4294967200):
 γ 221 #[.slice a c.length m,.func (.func 227) #[] #[]] W (.bool (c.any dc)):=by have⟨b,g,l⟩:=h;exact zS c a m b g _ _ dc W (mL func227 (by kernel_rfl) rfl) (λw d x j=>(Ex x w (i.aD d) (f x j)).mono (λe n h=>⟨h.1,h.2▸X5 _ _⟩)) l k
def LY(b d:fv)(a c:fY)(A w:Nat)(W:ay)(y:tY W b a)(B:tY W d c)(z:dq W)(G:b.length<=1073741824)(H:d.length<=1073741824)(F:∀x∈b,x.length<=4294967200)(D:∀x∈d,x.length<=4294967200):
 Calls prog 183 #[.slice a b.length A,.slice c d.length w] W λe i=>e=.returned (.bool (lJ b d))/\μ W i:=by
 have g:Hid (lJ b d=if b.length=0\/b.any jz=true\/d.any jz=true then false
 else if b.any dc=true then decide (b.length=1) else !(d.any dc)):=rfl
 have k:=Gf b a A W y G;have p:=λi (m:Below W.heap.size W i)=>Gf d c w i (B.aD m) H;have t:=λi (m:Below W.heap.size W i)=>IQ b a A i (y.aD m) (z.aD m) G F;have E:=λi (m:Below W.heap.size W i)=>IQ d c w i (B.aD m) (z.aD m) H D;have M:=X5 W.heap.size W;clear y B z F D;generalize lJ b d=S at*;generalize b.any jz=Q at*;generalize d.any jz=N at*;generalize b.any dc=K at*;generalize d.any dc=L at*;generalize b.length=n at*;by_cases r:n=0
 ·have j:Hid (S=false):=by show S=_;rw[g.u,Yd (.inl r)]
  have:((n:Int)==0)=true:=by rw[r];rfl
  clear g;go_in;go_wp2
  go_ret;exact⟨by rw[j.u];rfl,M⟩
 have:((n:Int)==0)=false:=by rw[Yi];omega
 cases Q with
 |true=>
  have j:Hid (S=false):=by show S=_;rw[g.u,Yd (.inr (.inl rfl))]
  clear g;go_in;go_wp2_with (go_at_call 221;refine k.mono ?_;clear k;rintro e v⟨rfl,f⟩)
  go_ret;exact⟨by rw[j.u];rfl,f⟩
 |false=>
  cases N with
  |true=>
   have j:Hid (S=false):=by show S=_;rw[g.u,Yd (.inr (.inr rfl))]
   clear g;go_in;go_wp2_with (first|(go_at_call 221;refine k.mono ?_;clear k;rintro e v⟨rfl,f⟩)|(go_at_call 221;refine(p _ f).mono ?_;clear p;rintro e J⟨rfl,l⟩;have o:=f.tr l;clear l))
   go_ret;exact⟨by rw[j.u];rfl,o⟩
  |false=>
   cases K with
   |true=>
    have j:Hid (S=decide (n=1)):=by show S=_;rw[g.u,Yb (by simp[r]),Yd rfl]
    clear g;have C:decide ((n:Int)=1)=decide (n=1):=by rw[T8];omega
    have R:=aC C;clear C;go_in;go_wp2_with (first|(go_at_call 221;refine k.mono ?_;clear k;rintro e v⟨rfl,f⟩)|(go_at_call 221;refine(p _ f).mono ?_;clear p;rintro e J⟨rfl,l⟩;have o:=f.tr l;clear l)|(go_at_call 221;refine(t _ o).mono ?_;clear t;rintro e O⟨rfl,q⟩;have s:=o.tr q;clear q))
    go_ret;exact⟨by rw[j.u,<-R.u];rfl,s⟩
   |false=>
    have j:Hid (S= !L):=by show S=_;rw[g.u,Yb (by simp[r]),Yb (by decide)]
    clear g;go_in;go_wp2_with (first|(go_at_call 221;refine k.mono ?_;clear k;rintro e v⟨rfl,f⟩)|(go_at_call 221;refine(p _ f).mono ?_;clear p;rintro e J⟨rfl,l⟩;have o:=f.tr l;clear l)|(go_at_call 221;refine(t _ o).mono ?_;clear t;rintro e O⟨rfl,q⟩;have s:=o.tr q;clear q)|(go_at_call 221;refine(E _ s).mono ?_;clear E;rintro e U⟨rfl,I⟩;have T:=s.tr I;clear I))
    go_ret;exact⟨by rw[j.u];first|rfl|simp,T⟩
def D9{c:Program}(w:ay){g:kt}{i:List Oper}{b:Oper}{a:Act}{Q:Exit->Act->ay->Prop}(l:b.guard=none)(s x:Operand)(h u:TypeId)(m:b.op=Op.call {callee:=Callee.builtin Builtin.append,args:= #[s,x],argTypes:= #[h,u]})(q f:az)(k:a.eval s=q)(n:a.eval x=f)(e:az)(d:ay)(j:(Builtin.append_ #[h,u] b.type #[q,f]).run c w=.ok e d)(o:wpList c g Q i (a.put b.dst e) d):wpList c g Q (b::i) a w:=by refine K' l λK p=>?_;unfold Oper.wp;simp[execOp,m,resolve,invoke,builtin,k,n,j,Result.andThen];exact p _ _ o
def Sj(n:Nat)(w:ay)(A:n<=1073741824):
 Calls prog 288 #[ς,ι n] w λe c=>∃v,e=.returned v/\c.ownsRow w.heap.size 9 1 v 0 []/\μ w c:=by
 have⟨a,q,k,x,i⟩:=Y1 Tryz.kZ
 by_cases l:n=0
 ·subst l;go_in;go_wp2
  go_ret;exact⟨_,rfl,YG _ _ _ _,X5 _ _⟩
 have j:Builtin.nextslicecap (0+n) 0*a.bytes<=281474976710656:=growslice_fits (by omega) (by rw[i];omega);have f:∀b,(Builtin.append_ #[30,3] b #[ς,ι n]).run prog w=.ok (ξ w.heap.size n (grownCap w n 0 9)) (w.drew.alloc (.cells (Builtin.zeroCells (ε).cells n++Builtin.zeroCells (ε).cells (grownCap w n 0 9-n)) 9)):=λb=>by have h:=Lib.run_append_grow_zeros (P:=prog) w 30 3 b 9 a _ .i64 .i64 YU YY q k none 0 0 [] (run_firstCells_none (P:=prog) w.drew a.size 0 0 0) n (by omega) (by omega) (by omega) (by omega) (by rw[i];omega) j;simpa using h
 have:=grownCap_ge w n 0 9;have d:=grownCap_le_maxLen w n 0 9 (by unfold maxLen;omega);have p:=World.ownsRow_made (base:=w.heap.size) (e:=9) (size:=1) w.drew (Builtin.zeroCells (ε).cells n++Builtin.zeroCells (ε).cells (grownCap w n 0 9-n)) (grownCap w n 0 9) ax d (by rw[Array.size_append,size_zeroCells,size_zeroCells,show (ε).cells.size=1 from rfl];omega);have o:=(X5 w.heap.size w).drew.alloc ax (.cells (Builtin.zeroCells (ε).cells n++Builtin.zeroCells (ε).cells (grownCap w n 0 9-n)) 9);unfold maxLen at d;generalize (w.drew.alloc (.cells (Builtin.zeroCells (ε).cells n++Builtin.zeroCells (ε).cells (grownCap w n 0 9-n)) 9))=g at*;generalize grownCap w n 0 9=G at*
 have:IntKind.wrap .i64 ((n:Int)-0)=(n:Int):=by rw[Int.sub_zero];exact wrap_small (by omega) (by omega)
 have:IntKind.wrap .i64 (n:Int)=n:=wrap_small (by omega) (by omega);go_in;go_wp2_with (at_builtin;refine D9 _ rfl (.tmp 20) (.tmp 21) 30 3 rfl _ _ rfl rfl _ _ ((aC f).u _) ?_)
 go_ret;exact⟨_,rfl,p,o⟩
def P3:(⟨a,c,none⟩:Addr).add b=⟨a,c+b,none⟩:=by unfold Addr.add;split<;>simp_all
def sy(W:ay)(v:az)(x:fv):Prop:=(v=.slice none 0 0/\x=[])\/∃b a c,v=.slice (some ⟨b,a,none⟩) x.length c/\b<W.heap.size/\eE W b a x
def sy.aD(h:sy g p f)(a:μ g d):sy d p f:=by
 obtain h|⟨b,o,c,i,e,j⟩:=h
 ·exact .inl h
 exact .inr ⟨b,o,c,i,Yo e a.size,j.aP a e⟩
def sy.sh(h:sy d p f):∃a c,p=.slice a f.length c:=by
 obtain⟨x,e⟩|⟨b,v,c,x,e,g⟩:=h
 ·subst e;exact⟨none,0,x⟩
 exact⟨_,c,x⟩
def Lq(W:ay)(b c:Nat)(d:List (fv)):Prop:=∀(a:Nat) (x:fv),d[a]?=some x->∃v,W.cell? ⟨b,c+a,none⟩=some v/\sy W v x
structure zN(W:ay)(ls:List (fv))(i:Nat)(v:az)(wr:ay):Prop where
 aP:μ W wr
 bG:wr.ownsRow W.heap.size 9 1 v (ls.take i).flatten.length ((ls.take i).flatten.map aK)
def Js(a:List (fv))(b:Nat):(a.take b).flatten.length<=a.flatten.length:=by
 have:a.flatten=(a.take b).flatten++(a.drop b).flatten:=by rw[<-ad1,C0]
 rw[this,X4];omega
def Ga(a:List (fv))(b:Nat)(h:b<a.length):(a.take (b+1)).flatten=(a.take b).flatten++a[b]:=by rw[Yn h,ad1];simp
def mu(a:List (fv))(b:Nat):Nat:=(a.take b).flatten.length
def Vl{a:List (fv)}:mu a a.length=a.flatten.length:=by unfold mu;rw[YR]
def TO(x:fv):∀u∈x.map aK,u.oneCell' =true:=λu a=>by obtain⟨y,-,rfl⟩:=YC.1 a;rfl
def OA(c:List (fv))(a:fY)(cap b t:Nat)(W:ay)(S:0<c.length->a=some ⟨b,t,none⟩/\b<W.heap.size/\Lq W b t c)(hn:c.length<=1073741824)(hl:c.flatten.length<=1073741824):
 Calls prog 267 #[.slice a c.length cap] W λe T=>∃v,e=.returned v/\T.ownsRow W.heap.size 9 1 v c.flatten.length (c.flatten.map aK)/\μ W T:=by
 have⟨M,U,aa,ai,ag⟩:=Y1 Tryz.kZ;have z:=aC S;have K:=Sj (mu c c.length) W (by rw[Vl];exact hl);go_in;go_wp2
 go_loopw [3,11] (λsv h wr=>∃d:Nat,h=ι d/\d<=c.length/\sv=ι (mu c d:Nat)/\wr=W) (λ_ h _=>c.length-aV h)
 case atStart=>exact⟨0,rfl,by omega,rfl,rfl⟩
 obtain⟨d,rfl,Y,rfl,rfl⟩:=hrel;by_cases k:d<c.length
 ·have:(d:Int)<c.length:=by omega
  obtain⟨rfl,H,r⟩:=z (by omega);have⟨v,E,l⟩:=r d c[d] (X9 k);obtain⟨a1,L,rfl⟩:=l.sh;have o:=Js c (d+1);have i:=Ga c d k;have s:mu c (d+1)=mu c d+c[d].length:=by unfold mu;rw[i,X4]
  have ad:=aC s;have ak:mu c (d+1)<=c.flatten.length:=o;rw[s]at ak;generalize c[d].length=m at*;generalize mu c d=n at*
  go_wp2
  go_roundw
  case rel=>exact⟨d+1,by go_num,by omega,by rw[ad.u];go_num,by first|rfl|trivial⟩
  simp only[aV];omega
 have B:d=c.length:=by omega
 subst B;have:¬(c.length:Int)<c.length:=by omega
 go_wp2_with (go_at_call 288;refine K.mono ?_;rintro e w1⟨v1,rfl,R,G⟩;have D:zN wr c 0 v1 w1:=⟨G,R⟩)
 obtain⟨g,O⟩:∃g,g=wr:=⟨_,rfl⟩;rw[<-O]at D z;go_loopw [6,27] (λv h X=>∃d:Nat,h=ι d/\d<=c.length/\zN g c d v X) (λ_ h _=>c.length-aV h)
 case atStart=>exact⟨0,rfl,by omega,D⟩
 obtain⟨d,rfl,Y,f⟩:=hrel;by_cases k:d<c.length
 ·have:(d:Int)<c.length:=by omega
  obtain⟨rfl,H,r⟩:=z (by omega);have⟨v,E,l⟩:=r d c[d] (X9 k);have al:=(f.aP.cell (p:=⟨b,t+d,none⟩) H).trans E;have ah:=l.aD f.aP;have o:=Js c (d+1);have i:=Ga c d k;have Z:=f.aP.size;have V:=aC i;have s:(c.take d).flatten.length+c[d].length<=1073741824:=by rw[i,X4]at o;omega
  generalize c[d]=x at*;obtain⟨rfl,rfl⟩|⟨b1,o1,L,rfl,G,J⟩:=ah
  ·have ae:zN g c (d+1) u6 wr:=⟨f.aP,by rw[V.u,ZR];exact f.bG⟩;have HR:=aC (run_append_owned_none (P:=prog) (w:=wr) g.heap.size 30 30 9 M 1 YU U u6 _ _ f.bG);go_wp2_with (at_builtin;refine D9 _ rfl (.tmp 31) (.tmp 32) 30 30 rfl _ _ rfl rfl _ _ HR ?_)
   go_roundw
   case rel=>exact⟨d+1,by go_num,by omega,ae⟩
   simp only[aV];omega
  go_wp2_with (at_builtin;refine YS _ rfl (.tmp 31) (.tmp 32) 30 rfl g.heap.size 9 M (.string ⟨#[]⟩) 1 16 YU U aa ai ag rfl (by decide) _ _ _ rfl f.bG ⟨b1,o1,none⟩ x.length L (x.map aK) rfl (by rw[Yk];omega) (λN u j=>by rw[P3];rw[Za]at j;cases A:x[N]? with|none=>(rw [A]at j;cases j)|some y=>(rw [A]at j;cases j;exact J N y A)) (TO x) (by unfold maxLen;omega) (by omega) (by omega) ?_;intro v6 w6 I Q _ _;have af:zN g c (d+1) v6 w6:=⟨f.aP.trans ((Tn.grown (p:=λq=>g.heap.size<=q) Q (λq F=>(f.bG.lt q F).1)).aP Z (λq F=>F)),by rw[V.u,X4,Yy];exact I⟩)
  go_roundw
  case rel=>exact⟨d+1,by go_num,by omega,af⟩
  simp only[aV];omega
 have B:d=c.length:=by omega
 subst B;have:¬(c.length:Int)<c.length:=by omega
 have C:=f.bG;rw[YR,List.length_flatten,List.map_flatten]at C;have ab:=f.aP;subst O;go_wp2
 go_ret;exact⟨_,rfl,C,ab⟩
def bR:fv->fv->fv
 |[],a=>a
 |x::b,a=>if x∈a then bR b a else bR b (a++[x])
def Jf(h:d.ownsRow b e j p n u)(c:a <=b):d.ownsRow a e j p n u:=by
 refine⟨h.1,?_⟩;obtain i|⟨g,k,f,i,l,m⟩:=h.2
 ·exact .inl i
 exact .inr ⟨g,k,f,i,Ye c l,m⟩
structure su(w2:ay)(sb:Nat)(all:fv)(i:Nat)(aE:fv)(v:az)(wr:ay):Prop where
 tn:Tn (λk=>k=sb) w2 wr
 seen:bF wr sb (dJ aE)
 bG:wr.ownsRow w2.heap.size 9 1 v aE.length (aE.map aK)
 mq:bR (all.drop i) aE=bR all []
 len:aE.length<=i
def su.skip{w4:ay}(h:su d b r a f p g)(i:a<r.length)(j:r[a]∈f)(c:μ g w4):su d b r (a+1) f p w4:=⟨h.tn.trans (Tn.aD c),h.seen.aD c,bI h.bG (λk e=>c.block k (h.bG.lt k e).2),by have:=h.mq;rw[Yu i,bR,Yd j]at this;exact this,by have:=h.len;omega⟩
def su.add{w4 w6:ay}{v v6:az}{o o':Obj}(h:su d a r b f v g)(wr:b<r.length)(c:r[b]∉f)(t:a<d.heap.size)(j:bF w4 a (fh (dJ f) r[b] (.agg #[])))(q:(g.alloc o).mapTurned w4 a)(i:(w4.alloc o').grownBy w6 v.ownBlock)(m:w6.ownsRow d.heap.size 9 1 v6 (f.length+1) (f.map aK++[aK r[b]])):su d a r (b+1) (f++[r[b]]) v6 w6:=by have l:=(X5 w4.heap.size w4).alloc ax o';rw[CZ c]at j;refine⟨(((h.tn.trans (Tn.aD ((X5 g.heap.size g).alloc ax o))).trans (mF (p:=λk=>k=a) q rfl)).trans (Tn.aD l)).tail (Tn.grown (p:=λk=>d.heap.size<=k) i (λk e=>(h.bG.lt k e).1)) (λk e=>e),(j.aD l).kept i (cQ h.bG t),by rw[X4,Yy];exact m,?_,by rw[X4,Yx];have:=h.len;omega⟩;have:=h.mq;rw[Yu wr,bR,Yb c]at this;exact this
def BY(h:List (fv))(a:fY)(cap b f:Nat)(W:ay)(n:0<h.length->a=some ⟨b,f,none⟩/\b<W.heap.size/\Lq W b f h)(hn:h.length<=1073741824)(hl:h.flatten.length<=1073741824):
 Calls prog 230 #[.slice a h.length cap] W λe Q=>∃v,e=.returned v/\Q.ownsRow W.heap.size 9 1 v (bR h.flatten []).length ((bR h.flatten []).map aK)/\μ W Q:=by
 have⟨i0,ah,Y,u,ag⟩:=Y1 Tryz.kZ;have:= @B' prog;have o:=(X5 W.heap.size W).alloc ax (.map #[] 0);have:(W.alloc (.map #[] 0)).heap.size=W.heap.size+1:=X_ _ _;have L:=OA h a cap b f (W.alloc (.map #[] 0)) (λe=>⟨(n e).1,Yo (n e).2.1 o.size,λaf x U=>by have⟨v,T,R⟩:=(n e).2.2 af x U;exact⟨v,(o.cell (p:=η b _) (n e).2.1).trans T,R.aD o⟩⟩) hn hl;generalize av:h.flatten=q at*;go_in;go_wp2_with (go_at_call 267;refine L.mono ?_;rintro e s⟨vC,rfl,C,r⟩;obtain⟨ac,cc,rfl⟩:=fp C;have:=r.size;have M:su s W.heap.size q 0 [] (ς) s:=⟨Tn.refl _ _,(bF.oj W).aD r,YG _ _ _ _,rfl,X0 _⟩)
 go_loopw [3,13] (λv t wr=>∃(c:Nat) (g:fv),t=ι c/\c<=q.length/\su s W.heap.size q c g v wr) (λ_ t _=>q.length-aV t)
 case atStart=>exact⟨0,[],rfl,by omega,M⟩
 obtain⟨c,g,rfl,ao,d⟩:=hrel;by_cases E:c<q.length
 ·have:(c:Int)<q.length:=by omega
  have⟨ar,k2,ai,au,aB⟩:=dv C (by omega);cases ai;have K:=bI C (λk j=>d.tn.block k (C.lt k j).2 (by have:=(C.lt k j).1;omega));have P:=lI K c (by simpa using E);rw[YT]at P;have:=d.tn.size;have:=d.len;have X:Hid (∀f:Obj,bF (wr.alloc f) W.heap.size (dJ g)):=λf=>d.seen.aD (ak wr f);have S:∀f:Obj,μ wr (wr.alloc f):=λf=>ak wr f;unfold aK at P;by_cases l:q[c]∈g
  ·have A:=λi=>d.skip (w4:=i) E l;have m:cG (dJ g) q[c]=some (.agg #[]):=by rw[uZ,Yd l]
   have F:=aC m;generalize q[c]=x at*;go_wp2_with (at_lookup;refine nh _ rfl _ _ 140 rfl 9 316 rW Yj (.agg #[]) (uY) W.heap.size (dJ g) rfl d.seen x rfl (.agg #[]) F ?_)
   go_roundw
   case rel=>exact⟨c+1,g,by go_num,by omega,A _ (S _)⟩
   simp only[aV];omega
  have A:=λi z v6 (f J:Obj)=>d.add (w4:=i) (w6:=z) (v6:=v6) (o:=f) (o':=J) E l (by omega);have m:cG (dJ g) q[c]=none:=by rw[uZ,Yb l]
  have F:=aC m;generalize q[c]=x at*;go_wp2_with (first|(at_lookup;refine nj _ rfl _ _ 140 rfl 9 316 rW Yj (.agg #[]) (uY) W.heap.size (dJ g) rfl d.seen x rfl F ?_)|(at_mapUpdate;refine q_ _ rfl _ _ _ 140 rfl 9 316 rW Yj W.heap.size (dJ g) rfl (X _) (by unfold dJ maxLen;rw[Yk];omega) x rfl (.agg #[]) rfl ?_;intro i N G;have D:=mF (p:=λk=>k=W.heap.size) G rfl;have y:=D.size;have ab:=bI d.bG (λk j=>(D.block k (by have:=(d.bG.lt k j).2;rw[X_];omega) (by have:=(d.bG.lt k j).1;omega)).trans (Z0 wr _ k (d.bG.lt k j).2));have:=(by rw[X_]at y;exact y))|(at_builtin;refine YS _ rfl (.tmp 28) (.tmp 30) 30 rfl s.heap.size 9 i0 (ε) 1 16 YU ah Y u ag rfl (by decide) _ g.length _ rfl (Yz ab _) (η _ 0) 1 1 [σ x] rfl rfl (gX _ _ [_]) (uI) (by unfold maxLen;omega) (by omega) (by rw[X_];omega) ?_;intro v6 z H O _ _))
  go_roundw
  case rel=>exact⟨c+1,_,by go_num,by omega,A _ _ _ _ _ N G O H⟩
  simp only[aV];omega
 have V:c=q.length:=by omega
 subst V;have:¬(q.length:Int)<q.length:=by omega
 have w:=d.mq;rw[ub]at w;have I:g=bR q []:=w;have HO:wr.ownsRow W.heap.size 9 1 u3 (bR q []).length ((bR q []).map aK):=by show World.ownsRow _ _ _ _ _ _ _;rw[<-I];exact Jf d.bG (by omega)
 have Z:=(o.tr r).trans (d.tn.aP (B:=W.heap.size) (by omega) (λk e=>by omega));go_wp2
 go_ret;exact⟨_,rfl,HO,Z⟩


