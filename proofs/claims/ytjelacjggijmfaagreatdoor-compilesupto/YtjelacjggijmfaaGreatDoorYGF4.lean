/- . -/
import Derived.Test.YtjelacjggijmfaaGreatDoorYGF2
import Derived.Test.YtjelacjggijmfaaGreatDoorYED6
set_option maxHeartbeats 8000000
set_option maxRecDepth 1000000
namespace Go.Proofs.YtjelacjggijmfaaGreatDoor
open Pl Mk Cp Proofs.Tryz
open RowKit MapKept ChangeMaps Maps
def dL (s:St)(fs:List aI)(us:List (Nat×List ag)):Nat->Nat×cE->Option (Nat×cE)
 |0,a=>if a.1≠0\/a.2.opn=[] then some a else none
 |n+1,a=>if a.1≠0\/a.2.opn=[] then some a else dL s fs us n (fA s fs us a.2)
def gM (s:St)(fs:List aI)(us:List (Nat×List ag))(d a:Nat×cE):Prop:=∃n,dL s fs us n d=some a
variable {o y:Nat×cE}
theorem gM.stop {s:St}{fs:List aI}{us:List (Nat×List ag)}(h:o.1≠0\/o.2.opn=[]):gM s fs us o o:=⟨0,by rw[dL,TP h]⟩
theorem gM.step {s:St}{fs:List aI}{us:List (Nat×List ag)}(h:¬(o.1≠0\/o.2.opn=[]))(a:gM s fs us (fA s fs us o.2) y):gM s fs us o y:=by obtain⟨n,d⟩:=a;exact⟨n+1,by rw[dL,TJ h];exact d⟩
structure uO (s:St)(fs:List aI)(us:List (Nat×List ag))(I:cE->Prop)(m:cE->Nat):Prop where
 step:∀t x,I t->t.opn.getLast?=some x->(fA s fs us t).1=0->I (fA s fs us t).2/\m (fA s fs us t).2<m t
 lk:∀t x,I t->t.opn.getLast?=some x->x.2<=x.1.aF.length/\x.1.aF.length<=4294967296/\∀y∈x.1.aF,y.length<=1073741824
 sz:∀t,I t->t.bF.length<=4294967296/\t.opn.length<=4294967296
section
variable {W X Y:ax} {L wk st:Nat} {c:Ad} {rb:Nat->Nat} {s:St} {vp:ay} {l:df} {bf bi:Nat} {ve:ay} {ef:List bL} {fs:List aI} {aP:Int} {us:List (Nat×List ag)} {v2 vo vv:ay} {t:cE}
structure AY (W:ax)(L wk st:Nat)(c:Ad)(rb:Nat->Nat)(s:St)(vp:ay)(l:df)(bf bi:Nat)(ve:ay)(ef:List bL)(fs:List aI)(aP:Int)(us:List (Nat×List ag))(v2:ay)(I:cE->Prop)(m:cE->Nat)(p0 p:Nat×cE)(gk:Nat)(X:ax):Prop where
 db:lM X L wk st c rb s vp l bf bi ve ef fs aP us v2 p.2
 aL:Below L W X
 Ta:p.1=0->I p.2/\m p.2<gk
 gE:∀r,gM s fs us p r->gM s fs us p0 r
theorem Pj (goal:ag)(k:Nat)(D:cE->Prop)(m:cE->Nat)(r:uO s fs us D m)(h:lM W L wk st c rb s vp l bf bi ve ef fs aP us v2 t)(h0:(dB s fs us t goal).1=0->D (dB s fs us t goal).2)(hx:∀x∈us,x.1<s.aD.length/\(bK s x.1).tg≠[]/\(∀y∈(bK s x.1).tg,y.length<=2000)/\x.2.length<=2000/\∀n∈x.2,n.length<=2000)(hn:us.length<=1073741824)(aa:Ok s k)(hg:goal.length<=1073741824)(ai:t.bF.length<=4294967296)(ah:t.opn.length<=4294967296):
 Calls prog 92 #[.pointer (some ⟨wk,0,none⟩),.string ⟨goal.toArray⟩] W λe W'=>∃z,gM s fs us (dB s fs us t goal) z/\e= .returned (.int .i64 (z.1:Int))/\lM W' L wk st c rb s vp l bf bi ve ef fs aP us v2 z.2/\Below L W W' :=by
 have CE:=aB (Ea goal k h hx hn aa hg ai ah);have HF:=aB r;have HG:Hid (∀w f x,lM w L wk st c rb s vp l bf bi ve ef fs aP us v2 f->D f->f.opn.getLast?=some x->Calls prog 143 #[.pointer (some ⟨wk,0,none⟩)] w λe W'=>e= .returned (.int .i64 ((fA s fs us f).1:Int))/\lM W' L wk st c rb s vp l bf bi ve ef fs aP us v2 (fA s fs us f).2/\Below L w W'):=λw f x hw o j=>Pt k hw hx hn aa (r.sz f o).1 (r.sz f o).2 x j (r.lk f x o j).1 (r.lk f x o j).2.1 (r.lk f x o j).2.2;have H0:=aB h0;clear h r h0;generalize dB s fs us t goal=v at*;go_enter func92,ntmps92;go_wp2_with (first|(go_at_call 142;refine CE.u.mono ?_;clear CE;rintro e w1 ⟨rfl,Z,ae⟩;have ad:Hid (AY W L wk st c rb s vp l bf bi ve ef fs aP us v2 D m v v (m v.2+1) w1):=⟨Z,ae,λe=>⟨H0.u e,V7 _⟩,λz S=>S⟩;clear Z ae)|fail)
 go_loopg [5] (m v.2+1) (λgk ev wr=>∃N:Nat×cE,ev= .int .i64 (N.1:Int)/\Hid (AY W L wk st c rb s vp l bf bi ve ef fs aP us v2 D m v N gk wr))
 case atStart=>exact⟨v,rfl,ad⟩
 case round=>
  clear ad;obtain⟨N,rfl,a⟩:=hrel;obtain⟨p,d⟩:=N;simp only at a⊢;obtain⟨vo,vv,Q,qv,R,V,hv⟩:=a.u.db;obtain⟨av,cv,rfl⟩:=gL R.opn;have d4:=R.eE.row.cell? (i:=4) rfl;have I:Q.length=d.opn.length:=by rw[<-V,TR]
  clear R V hv;by_cases E:p=0
  ·have u1:((p:Int)==0)=true:=by rw[UR];omega
   by_cases hz:0<Q.length
   ·have u2:(0:Int)<(Q.length:Int):=by omega
    have aU:¬((p,d).1≠0\/(p,d).2.opn=[]):=λq=>by
     rcases q with q|q
     ·exact q E
     ·simp only at q;rw[q,T1] at I;omega
    obtain⟨o,hm⟩:=a.u.Ta E;simp only at o hm;cases j:d.opn.getLast? with
    |none=>rw[W7] at j;rw[j,T1] at I;omega
    |some x=>
     have CG:=aB (HG.u wr d x a.u.db o j);have HN:Hid (∀G,lM G L wk st c rb s vp l bf bi ve ef fs aP us v2 (fA s fs us d).2->Below L wr G->AY W L wk st c rb s vp l bf bi ve ef fs aP us v2 D m v (fA s fs us d) (m d) G):=λG O b2=>⟨O,a.u.aL.trans b2,λe=>HF.u.step d x o j e,λz S=>a.u.gE z (gM.step aU S)⟩;clear I E aU j a;generalize fA s fs us d=g2 at*;go_wp2_with (first|(go_at_call 143;refine CG.u.mono ?_;clear CG;rintro e G ⟨rfl,O,ac⟩;have af:=aB (HN.u G O ac);clear O ac)|fail)
     go_roundg (m d)
     case measure=>exact hm
     case rel=>exact⟨g2,rfl,af⟩
   ·have u2:¬(0:Int)<(Q.length:Int):=by omega
    have ab:(p,d).1≠0\/(p,d).2.opn=[]:= .inr (Vp (by simp only;omega));have M:=aB (a.u.gE _ (gM.stop ab));have H:=aB a.u.db;have J:=aB a.u.aL;clear I E ab a;go_wp2_with fail
    go_ret;first|exact⟨_,_,M.u,rfl,H.u,J.u⟩|exact⟨_,M.u,rfl,H.u,J.u⟩
  ·have u1:((p:Int)==0)=false:=by rw[TQ];omega
   have M:=aB (a.u.gE _ (gM.stop (.inl E)));have H:=aB a.u.db;have J:=aB a.u.aL;clear I E a;go_wp2_with fail
   go_ret;first|exact⟨_,_,M.u,rfl,H.u,J.u⟩|exact⟨_,M.u,rfl,H.u,J.u⟩
end
def gi:cE:=⟨[],[],[]⟩
variable {z:List ay}{i E:Nat}
section
variable {W X Y:ax} {L wk st:Nat} {c:Ad} {rb:Nat->Nat} {s:St} {vp:ay} {l:df} {bf bi:Nat} {ve:ay} {ef:List bL} {fs:List aI} {aP:Int} {us:List (Nat×List ag)} {v2 vo vv:ay} {t:cE}
theorem sN {w:ax}{N o:Nat}(h:aG w N 193 z)(u:ay){k:Nat}{i:Array ay}{e:TypeId}{d:Nat×Nat}(a:w.heap[k]?=some (Obj.cells i e d))(f:e≠193):(w.setCell ⟨N,o,none⟩ u).heap[k]?=w.heap[k]?:=T5 w ⟨N,o,none⟩ u k (λq=>by simp only at q;unfold aG at h;rw[q,h] at a;cases a;exact f rfl)
theorem Ib {w:ax}{N o:Nat}(h:aG w N 193 z)(u:ay):Bl w (w.setCell ⟨N,o,none⟩ u):=⟨λ_ _ _ a=>sN h u a (by decide),λ_ _ _ a=>sN h u a (by decide),λ_ _ _ a=>sN h u a (by decide),λ_ _ _ a=>sN h u a (by decide),λ_ _ _ a=>sN h u a (by decide)⟩
theorem kz.S1 {w:ax}{N:Nat}(h:aG w N 193 z)(u:ay){v:ay}(a:kz w rb v us):kz (w.setCell ⟨N,i,none⟩ u) rb v us:=by
 rcases a with q|⟨b,o',cp,q1,⟨cs,fz,q2⟩,q3⟩
 ·exact .inl q
 ·have e:=sN (o:=i) h u q2 (by decide);refine .inr ⟨b,o',cp,q1,⟨cs,fz,e.trans q2⟩,λj x m=> ?_⟩;obtain⟨o,n,d,f⟩:=q3 j x m;refine⟨?_,n,?_,f.bl (Ib h u)⟩
  ·unfold World.cell? at*;rw[e];exact o
  ·unfold World.cell? at*;rw[e];exact d
theorem SK {a:ax}{u:ay}(j:L<=wk)(M:L<=st)(d:mV a wk c rb s vp l bf bi ve ef fs aP (.slice none 0 0) (.map (some st)) (.slice none 0 0) (.slice none 0 0))(E:kz a rb u us)(v:bC a st [])(J:L<=a.heap.size)(H:c.nm<L/\c.bt<L/\c.pb<L/\c.bx<L/\bf<L/\bi<L/\0<L):
 lM (a.setCell ⟨wk,2,none⟩ u) L wk st c rb s vp l bf bi ve ef fs aP us u gi:=by have f:Below L a (a.setCell ⟨wk,2,none⟩ u):=(TF L a).setCell (p:=⟨wk,2,none⟩) j u;have z:=Ib (o:=2) d.row u;obtain⟨x,y,n,G,D,N,r⟩:=H;refine⟨_,_,[],[],⟨⟨d.row.set 2 u,d.bm.bl z (f.block _ x) (f.block _ y) (f.block _ n),d.pw.tn (Tn.set (p:=λk=>k=wk) a ⟨wk,2,none⟩ u rfl) (by omega) (by omega) (by omega),?_⟩,E.S1 d.row u,v.setCell (aa9 (mA d.row v)) u,Uk _ _ _ _,λq i=>(by cases i),Uk _ _ _ _,λq i=>(by cases i),j,M,TT J f.size,⟨x,y,n,G,D,N,r⟩⟩,rfl,rfl⟩;obtain⟨m,I⟩:=d.fh;exact⟨m,(f.cell (p:=⟨0,0,none⟩) r).trans I⟩
def xn (s:St)(fs:List aI)(g:ag)(W:ax)(e:Ending)(W' :ax):Prop:=
 Below W.heap.size W W' /\((g=[]/\e= .returned (.tuple #[.slice none 0 0,.int .i64 8]))\/(g≠[]/\2000<g.length/\e= .returned (.tuple #[.slice none 0 0,.int .i64 5]))\/
  (g≠[]/\g.length<=2000/\∃a,gM s fs (cB s fs s.bD) (dB s fs (cB s fs s.bD) gi g) a/\
   ((a.1≠0/\e= .returned (.tuple #[.slice none 0 0,.int .i64 (a.1:Int)]))\/(a.1=0/\100<a.2.cD.length/\e= .returned (.tuple #[.slice none 0 0,.int .i64 5]))\/
     (a.1=0/\a.2.cD.length<=100/\∃(vv:ay) (qv:List Vq),e= .returned (.tuple #[vv,.int .i64 0])/\W'.ownsRow W.heap.size 197 5 vv qv.length (qv.flatMap lj)/\(∀q∈qv,kA W' q)/\qv.map Vq.nd=a.2.cD))))
theorem OR (gl g:ag)(k:Nat)(R:(gl=g/\gl≠[])\/(gl=[]/\g=s.first))(aa:cE->Prop)(m:cE->Nat)(hF:uO s fs (cB s fs s.bD) aa m)(d:(dB s fs (cB s fs s.bD) gi g).1=0->aa (dB s fs (cB s fs s.bD) gi g).2)(f:BM W c rb s vp l)(O:PW W c.bx bf bi ve ef fs aP)(ab:c_ W)(G:Ok s k)(o:g≠[])(z:g.length<=2000):
 Calls prog 65 #[.pointer (some ⟨c.bb,0,none⟩),.pointer (some ⟨c.bx,0,none⟩),.string ⟨gl.toArray⟩] W λe W'=>xn s fs g W e W' :=by
 have az:= @XN prog;have ao:g.isEmpty=false:=by rw[<-WH,aal];exact o
 have aq:¬(2000:Int)<(g.length:Int):=by omega
 have z1:(W.alloc (.map #[] 0)).heap.size=W.heap.size+1:=TM _ _;have J:=((TF W.heap.size W).alloc ak (.map #[] 0)).alloc (by omega) (.cells #[.pointer (some ⟨c.bb,0,none⟩),.pointer (some ⟨c.bx,0,none⟩),.slice none 0 0,.map (some W.heap.size),.slice none 0 0,.slice none 0 0] 193);have Z:=aG.bA (W.alloc (.map #[] 0)) 193 [.pointer (some ⟨c.bb,0,none⟩),.pointer (some ⟨c.bx,0,none⟩),.slice none 0 0,.map (some W.heap.size),.slice none 0 0,.slice none 0 0];rw[z1] at Z;have mS:=(bC.jV W).aE ((TF _ (W.alloc (.map #[] 0))).alloc ak (.cells #[.pointer (some ⟨c.bb,0,none⟩),.pointer (some ⟨c.bx,0,none⟩),.slice none 0 0,.map (some W.heap.size),.slice none 0 0,.slice none 0 0] 193));have al:c.nm<W.heap.size/\c.bt<W.heap.size/\c.pb<W.heap.size/\c.bx<W.heap.size/\bf<W.heap.size/\bi<W.heap.size/\0<W.heap.size:=⟨f.aV.lt,f.ij.lt,f.jt.lt,O.row.lt,O.aX.lt,by obtain⟨l,q,-⟩:=O.first;exact q.lt,uI ab⟩;have ah:∀j∈s.bD,j<s.aD.length/\(bK s j).nd.length<=2000/\∀n∈(bK s j).nd,n.length<=2000:=λj N=>⟨f.pl j N,(qc G (f.pl j N)).nl,(qc G (f.pl j N)).nw⟩;have ar:=G.pt;have aw:=G.iP;have ai:∀x∈cB s fs s.bD,x.1<s.aD.length/\(bK s x.1).tg≠[]/\(∀y∈(bK s x.1).tg,y.length<=2000)/\x.2.length<=2000/\∀n∈x.2,n.length<=2000:=λx hx=>by unfold cB at hx;obtain⟨j,N,rfl⟩:=Uc.1 hx;have ad:=f.pl j (Vt.1 N).1;have D:=qc G ad;exact⟨ad,D.ne,D.tw,TT (W6 _ _) D.nl,λn hn=>D.nw n (Vt.1 hn).1⟩
 have aA:=Ge s fs s.bD;have p1:=aG.cell? (i:=1) f.cV rfl;have aC:c.bb<W.heap.size:=aG.lt f.cV;obtain⟨ap,cp,ac⟩:=f.bD.sh;rw[TR] at ac;rw[ac] at p1;have S:mV ((W.alloc (.map #[] 0)).alloc (.cells #[.pointer (some ⟨c.bb,0,none⟩),.pointer (some ⟨c.bx,0,none⟩),.slice none 0 0,.map (some W.heap.size),.slice none 0 0,.slice none 0 0] 193)) (W.heap.size+1) c rb s vp l bf bi ve ef fs aP (.slice none 0 0) (.map (some W.heap.size)) (.slice none 0 0) (.slice none 0 0):=⟨Z,f.aE J,O.aE J,ab.aE J⟩;have CU:=aB (L_ s.bD vp S (S.bm.bD) ah (by omega));rw[ac] at CU;have CF:Hid (∀v u,Below ((W.alloc (.map #[] 0)).alloc (.cells #[.pointer (some ⟨c.bb,0,none⟩),.pointer (some ⟨c.bx,0,none⟩),.slice none 0 0,.map (some W.heap.size),.slice none 0 0,.slice none 0 0] 193)).heap.size ((W.alloc (.map #[] 0)).alloc (.cells #[.pointer (some ⟨c.bb,0,none⟩),.pointer (some ⟨c.bx,0,none⟩),.slice none 0 0,.map (some W.heap.size),.slice none 0 0,.slice none 0 0] 193)) v->kz v rb u (cB s fs s.bD)->
  aG v (W.heap.size+1) 193 [.pointer (some ⟨c.bb,0,none⟩),.pointer (some ⟨c.bx,0,none⟩),.slice none 0 0,.map (some W.heap.size),.slice none 0 0,.slice none 0 0]/\Calls prog 92 #[.pointer (some ⟨W.heap.size+1,0,none⟩),.string ⟨g.toArray⟩] (v.setCell ⟨W.heap.size+1,2,none⟩ u) λe W'=>∃a,gM s fs (cB s fs s.bD) (dB s fs (cB s fs s.bD) gi g) a/\e= .returned (.int .i64 (a.1:Int))/\lM W' W.heap.size (W.heap.size+1) W.heap.size c rb s vp l bf bi ve ef fs aP (cB s fs s.bD) u a.2/\Below W.heap.size W W'):=λv u r Q=>by
  refine⟨Z.aE r,?_⟩;have aj:=J.tr r;refine(Pj (t:=gi) g k aa m hF (SK (Ww _) ak (S.aE r) Q (mS.aE r) aj.size al) d ai (by omega) G (by omega) (by decide) (by decide)).mono ?_;rintro e w' ⟨a,q1,q2,q3,q4⟩;exact⟨a,q1,q2,q3,(aj.setCell (p:=⟨W.heap.size+1,2,none⟩) (Ww _) u).trans q4⟩
 have C1:=aB (yf c.bb c.nm c.bt c.pb vp s.first W f.cV);clear S Z mS J f O ab hF d ai ah;go_enter func65,ntmps65;rcases R with⟨rfl,-⟩|⟨rfl,R⟩
 case' inr=>rw[<-R] at C1;clear R
 all_goals go_wp2_with (first|(go_at_call 90;refine C1.u.mono ?_;clear C1;rintro e w1 ⟨rfl,ae⟩;rw[ae];clear ae)|(go_at_call 91;refine CU.u.mono ?_;clear CU;rintro e v ⟨u,rfl,Q,r⟩;obtain⟨au,cu,am⟩:=Q.sh;subst am;obtain⟨r2,cf⟩:=CF.u v _ r Q;have y2:=r2.cell? (i:=2) rfl;have z2:=r2.frozen 2;have af:=aB cf;clear Q r r2 cf CF)|(go_at_call 92;refine af.u.mono ?_;clear af;rintro e w3 ⟨a,q1,rfl,q3,q4⟩;obtain⟨vo,vv,qo,qv,V,D,hv⟩:=q3;have y5:=V.eE.row.cell? (i:=5) rfl;obtain⟨av,cv,an⟩:=gL V.iI;subst an;have E:=aB q1;have HM:=aB V;have I:=aB hv;have H:=aB q4;clear q1 q4 V D hv)|fail)
 ·rename_i i;go_ret2
  have d:a.1≠0:=λq=>by rw[q] at i;exact absurd i (by decide)
  exact⟨H.u,.inr (.inr ⟨o,z,a,E.u,.inl ⟨d,rfl⟩⟩)⟩
 ·rename_i i _ _ h2;go_ret2
  have d:a.1=0:=by rw[Uv] at i;omega
  have hl:qv.length=a.2.cD.length:=by rw[<-I.u,TR]
  exact⟨H.u,.inr (.inr ⟨o,z,a,E.u,.inr (.inl ⟨d,by omega,rfl⟩)⟩)⟩
 ·rename_i i h2;go_ret2
  have d:a.1=0:=by rw[Uv] at i;omega
  have hl:qv.length=a.2.cD.length:=by rw[<-I.u,TR]
  have M:=HM.u;exact⟨H.u,.inr (.inr ⟨o,z,a,E.u,.inr (.inr ⟨d,by omega,_,qv,rfl,M.iI,M.oS,I.u⟩)⟩)⟩
 ·rename_i i;go_ret2
  have d:a.1≠0:=λq=>by rw[q] at i;exact absurd i (by decide)
  exact⟨H.u,.inr (.inr ⟨o,z,a,E.u,.inl ⟨d,rfl⟩⟩)⟩
 ·rename_i i _ _ h2;go_ret2
  have d:a.1=0:=by rw[Uv] at i;omega
  have hl:qv.length=a.2.cD.length:=by rw[<-I.u,TR]
  exact⟨H.u,.inr (.inr ⟨o,z,a,E.u,.inr (.inl ⟨d,by omega,rfl⟩)⟩)⟩
 ·rename_i i h2;go_ret2
  have d:a.1=0:=by rw[Uv] at i;omega
  have hl:qv.length=a.2.cD.length:=by rw[<-I.u,TR]
  have M:=HM.u;exact⟨H.u,.inr (.inr ⟨o,z,a,E.u,.inr (.inr ⟨d,by omega,_,qv,rfl,M.iI,M.oS,I.u⟩)⟩)⟩
end
def fX (s:St)(a:ag):ag:=if a=[] then s.first else a
section
variable {W:ax} {c:Ad} {rb:Nat->Nat} {s:St} {vp:ay} {l:df} {bf bi:Nat} {ve:ay} {ef:List bL} {fs:List aI} {aP:Int}
theorem Lb (d:BM W c rb s vp l)(h:s.first=[]):
 Calls prog 65 #[.pointer (some ⟨c.bb,0,none⟩),.pointer (some ⟨c.bx,0,none⟩),.string ⟨([]:ag).toArray⟩] W λe W'=>xn s fs [] W e W' :=by
 have a:=aB (yf c.bb c.nm c.bt c.pb vp s.first W d.cV);rw[h] at a;clear d h;go_enter func65,ntmps65;go_wp2_with (first|(go_at_call 90;refine a.u.mono ?_;clear a;rintro e i ⟨rfl,f⟩;rw[f];clear f)|fail)
 go_ret2
 exact⟨TF _ _,.inl ⟨rfl,rfl⟩⟩
theorem LC (a g:ag)(d:(a=g/\a≠[])\/(a=[]/\g=s.first))(m:BM W c rb s vp l)(j:g≠[])(n:2000<g.length):
 Calls prog 65 #[.pointer (some ⟨c.bb,0,none⟩),.pointer (some ⟨c.bx,0,none⟩),.string ⟨a.toArray⟩] W λe W'=>xn s fs g W e W' :=by
 have r:g.isEmpty=false:=by rw[<-WH,aal];exact j
 have p:(2000:Int)<(g.length:Int):=by omega
 have f:=aB (yf c.bb c.nm c.bt c.pb vp s.first W m.cV);clear m;go_enter func65,ntmps65;rcases d with⟨rfl,-⟩|⟨rfl,d⟩
 case' inr=>rw[<-d] at f;clear d
 all_goals go_wp2_with (first|(go_at_call 90;refine f.u.mono ?_;clear f;rintro e o ⟨rfl,i⟩;rw[i];clear i)|fail)
 all_goals go_ret2
 all_goals exact⟨TF _ _,.inr (.inl ⟨j,n,rfl⟩)⟩
theorem MH (a:ag)(k:Nat)(x:fX s a≠[]->(fX s a).length<=2000->∃j m,uO s fs (cB s fs s.bD) j m/\((dB s fs (cB s fs s.bD) gi (fX s a)).1=0->j (dB s fs (cB s fs s.bD) gi (fX s a)).2))(o:BM W c rb s vp l)(p:PW W c.bx bf bi ve ef fs aP)(v:c_ W)(r:Ok s k):
 Calls prog 65 #[.pointer (some ⟨c.bb,0,none⟩),.pointer (some ⟨c.bx,0,none⟩),.string ⟨a.toArray⟩] W λe W'=>xn s fs (fX s a) W e W' :=by
 have n:(a=fX s a/\a≠[])\/(a=[]/\fX s a=s.first):=by
  unfold fX;by_cases h:a=[]
  ·exact .inr ⟨h,TP h⟩
  ·exact .inl ⟨(TJ h).symm,h⟩
 by_cases d:fX s a=[]
 ·rcases n with⟨i,f⟩|⟨i,f⟩
  ·exact absurd (i.trans d) f
  ·rw[d,i];exact Lb o (f.symm.trans d)
 ·by_cases u:2000<(fX s a).length
  ·exact LC a _ n o d u
  ·obtain⟨j,m,i,f⟩:=x d (by omega);exact OR a _ k n j m i f o p v r d (by omega)
end
def jx (fl:dM):List ag:=fl.map (·.1)
theorem vT (k:ag)(v:Nat):∀(fl:dM) (y:ag),y∈jx (cL fl k v)->y=k\/y∈jx fl
 |[],y,h=>by simp only[cL,jx,Ug,VL,Ue,Vl,Xm] at h;exact .inl h
 |(f,d)::a,y,h=>by
  simp only[cL] at h;split at h
  ·rename_i e;simp only[jx,Ug,Ue] at h⊢;rcases h with h|h
   ·first|exact .inr (.inl h)|exact .inl h
   ·exact .inr (.inr h)
  ·simp only[jx,Ug,Ue] at h⊢;rcases h with h|h
   ·exact .inr (.inl h)
   ·rcases vT k v a y h with q|q
    ·exact .inl q
    ·exact .inr (.inr q)
theorem E_ (k:ag)(v:Nat):∀fl:dM,fl.length<=(cL fl k v).length
 |[]=>TS _
 |(d,f)::a=>by
  simp only[cL];split
  ·exact TD _
  ·have:=E_ k v a;simp only[TK];omega
theorem Ef (k:ag)(v:Nat):∀fl:dM,k∉jx fl->cL fl k v=fl++[(k,v)]
 |[],_=>rfl
 |(f,d)::a,h=>by
  simp only[jx,Ug,Ue,not_or] at h;have e:=Ef k v a h.2;simp only[cL];split
  ·rename_i q;exact absurd (by first|exact q.symm|exact q|exact(UR.1 q).symm|exact UR.1 q) h.1
  ·rw[e];rfl
theorem yk (k:ag)(v:Nat):∀fl:dM,(jx fl).Nodup->(jx (cL fl k v)).Nodup
 |[],_=>by simp[cL,jx]
 |(d,j)::a,h=>by
  simp only[jx,Ug,Wv] at h;simp only[cL];split
  ·rename_i q;simp only[jx,Ug,Wv];first|exact h|(have i:d =k:=(by first|exact q|exact q.symm|exact UR.1 q);rw[<-i];exact h)
  ·rename_i q;simp only[jx,Ug,Wv];refine⟨λf=> ?_,yk k v a h.2⟩;rcases vT k v a d f with e|e
   ·exact q (by first|exact e|exact e.symm|exact UR.2 e)
   ·exact h.1 e
theorem zu (k:ag)(v:Nat)(d:Nat->Prop)(f:d v):∀fl:dM,(∀x∈fl,d x.2)->∀x∈cL fl k v,d x.2
 |[],_,x,a=>by simp only[cL,Ue,Vl,Xm] at a;rw[a];exact f
 |(n,m)::i,h,x,a=>by
  simp only[cL] at a;split at a
  ·rcases Ue.1 a with q|q
   ·rw[q];exact f
   ·exact h x (TX _ q)
  ·rcases Ue.1 a with q|q
   ·rw[q];exact h _ (TY ..)
   ·exact zu k v d f i (λy j=>h y (TX _ j)) x q
theorem Lf (k:ag)(d:Nat->Prop)(fl:dM)(h:∀x∈fl,d x.2)(f:k∈jx fl):d (bG fl k):=by
 obtain⟨x,i,e⟩:=Uc.1 f;unfold bG;cases a:fl.find? λx=>x.1==k with
 |none=>have:=Vm.1 a x i;exact absurd (UR.2 e) this
 |some z=>exact h z (Uw a)
theorem uQ:∀(xs U:List ag),xs.Nodup->(∀x∈xs,x∈U)->xs.length<=U.length
 |[],_,_,_=>TS _
 |x::i,U,h,d=>by rw[Wv] at h;have f:=d x (TY ..);have j:=uQ i (U.erase x) h.2 (λy a=>(XL (λ(q:y=x)=>h.1 (q▸a))).2 (d y (TX _ a)));rw[ZY f] at j;have:=aan f;rw[TK];omega
def nD:List (cA×Nat)->Nat
 |[]=>0
 |x::a=>(x.1.aF.length-x.2+1)+nD a
theorem vE (a b:List (cA×Nat)):nD (a++b)=nD a+nD b:=by
 induction a with
 |nil=>simp[nD]
 |cons x f d=>rw[UE,nD,nD,d];omega
structure tN (s:St)(fs:List aI)(us:List (Nat×List ag))(U:List ag)(C:Nat):Prop where
 aF:∀name,∀y∈(ea s fs us name).1.aF,y∈U
 len:∀name,(ea s fs us name).1.aF.length<=C
 cl:C<=4294967296
 ul:U.length<=4294967296
 wl:∀y∈U,y.length<=1073741824
structure me (U:List ag)(C:Nat)(t:cE):Prop where
 key:∀x∈jx t.bF,x∈U
 nd:(jx t.bF).Nodup
 fl:∀x∈t.bF,x.2=1\/x.2=2
 op:∀x∈t.opn,x.1.name∈U/\x.2<=x.1.aF.length/\x.1.aF.length<=C/\∀y∈x.1.aF,y∈U
 on:t.opn.length<=t.bF.length
def rO (U:List ag)(C:Nat)(t:cE):Nat:=(U.length-t.bF.length)*(C+2)+nD t.opn
theorem uc (s:St)(fs:List aI)(us:List (Nat×List ag))(name:ag):(ea s fs us name).1.name=name:=by
 unfold ea;split
 ·split<;>rfl
 ·rfl
section
variable {s:St} {fs:List aI} {us:List (Nat×List ag)} {U:List ag} {C:Nat} {t:cE}
theorem me.le (h:me U C t):t.bF.length<=U.length:=by have:=uQ _ U h.nd h.key;unfold jx at this;rwa [TR] at this
theorem yK (m:tN s fs us U C)(h:me U C t)(name:ag)(p:name∈U)(a:(dB s fs us t name).1=0):
 me U C (dB s fs us t name).2/\rO U C (dB s fs us t name).2<=rO U C t:=by
 unfold dB at a⊢;by_cases f:bG t.bF name=2
 ·rw[TP f] at a⊢;exact⟨h,TD _⟩
 rw[TJ f] at a⊢;by_cases j:bG t.bF name=1
 ·rw[TP j] at a;cases a
 rw[TJ j] at a⊢;by_cases o:(ea s fs us name).2=false
 ·rw[TP o] at a;cases a
 rw[TJ o] at a⊢;have z:name∉jx t.bF:=λq=>by
  rcases Lf name (λv=>v=1\/v=2) t.bF h.fl q with e|e
  ·exact j e
  ·exact f e
 have e:=Ef name 1 t.bF z;have n:me U C {t with bF:=cL t.bF name 1,opn:=t.opn++[((ea s fs us name).1,0)]}:=by
  refine⟨λx i=> ?_,yk _ _ _ h.nd,zu name 1 (λv=>v=1\/v=2) (.inl rfl) _ h.fl,λx i=> ?_,?_⟩
  ·rcases vT name 1 t.bF x i with q|q
   ·rw[q];exact p
   ·exact h.key x q
  ·rcases T4.1 i with q|q
   ·exact h.op x q
   ·rw[TL] at q;rw[q];exact⟨by rw[uc];exact p,TS _,m.len name,m.aF name⟩
  ·have:=h.on;simp only[e,TE,TK,T1];omega
 refine⟨n,?_⟩;have y:=n.le;simp only[e,TE,TK,T1] at y;unfold rO;simp only[e,TE,TK,T1,vE,nD];have D:=m.len name;obtain⟨d,r⟩:∃d,U.length-t.bF.length=d+1:=⟨U.length-t.bF.length-1,by omega⟩;have u:U.length-(t.bF.length+(0+1))=d:=by omega
 rw[r,u,VO];omega
theorem Gv (j:tN s fs us U C):uO s fs us (me U C) (rO U C) where
 step t x h hl h0:=by
  obtain⟨d,a⟩:=Wz.1 hl;have i:=h.op x (by rw[a];exact Un _ (TL.2 rfl));have o:t.opn.dropLast=d:=by rw[a,Vx]
  unfold fA at h0⊢;rw[hl] at h0⊢;simp only at h0⊢;by_cases n:x.2=x.1.aF.length
  ·rw[TP n] at h0⊢;unfold lX;rw[hl];simp only[o];have z:=E_ x.1.name 2 t.bF;have p:=h.on;rw[a,TE] at p;refine⟨⟨λy f=> ?_,yk _ _ _ h.nd,zu x.1.name 2 (λv=>v=1\/v=2) (.inr rfl) _ h.fl,λy f=>h.op y (by rw[a];exact Ul _ f),?_⟩,?_⟩
   ·rcases vT x.1.name 2 t.bF y f with q|q
    ·rw[q];exact i.1
    ·exact h.key y q
   ·simp only;omega
   ·unfold rO;rw[a,vE];simp only[nD];have:=U4 (C+2) (Nat.sub_le_sub_left z U.length);omega
  ·rw[TJ n] at h0⊢;rw[o] at h0⊢;have m:x.2<x.1.aF.length:=by omega
   have f:x.1.aF.getD x.2 []∈U:=by rw[TO,TH m];exact i.2.2.2 _ (TV m)
   have r:me U C {t with opn:=d++[(x.1,x.2+1)]}:=by
    refine⟨h.key,h.nd,h.fl,λy f=> ?_,?_⟩
    ·rcases T4.1 f with q|q
     ·exact h.op y (by rw[a];exact Ul _ q)
     ·rw[TL] at q;rw[q];exact⟨i.1,m,i.2.2⟩
    ·have:=h.on;rw[a] at this;simp only[TE,TK,T1] at this⊢;exact this
   obtain⟨u,D⟩:=yK j r _ f h0;refine⟨u,Nat.lt_of_le_of_lt D ?_⟩;unfold rO;rw[a,vE,vE];simp only[nD];omega
 lk t x h hl:=by obtain⟨d,a⟩:=Wz.1 hl;have i:=h.op x (by rw[a];exact Un _ (TL.2 rfl));exact⟨i.2.1,TT i.2.2.1 j.cl,λy f=>j.wl y (i.2.2.2 y f)⟩
 sz t h:=⟨TT h.le j.ul,TT h.on (TT h.le j.ul)⟩
theorem Im:me U C gi:=⟨λx a=>(by cases a),VF,λx a=>(by cases a),λx a=>(by cases a),TD _⟩
theorem PX (d:tN s fs us U C)(g:ag)(f:g∈U):∃a m,uO s fs us a m/\((dB s fs us gi g).1=0->a (dB s fs us gi g).2):=⟨me U C,rO U C,Gv d,λh=>(yK d Im g f h).1⟩
end
structure pf (P:St->Prop):Prop where
 assign:∀s l,P s->P (gW s l).2
 sF:∀s op l,P s->P (fT s op l).2
 jz:∀s l,P s->P (fW s l).2.2
 rR:∀s a b,P s->P {s with inc:=a,opn:=b}
section
variable {P:St->Prop} {rec:St->ag->Nat×Nat×St} {fs:List aI}
theorem LW (a:pf P)(f:∀s t,P s->P (rec s t).2.2){s:St}(h:P s)(w:ag)(d:Nat):P (ic rec fs s w d).2.2:=by
 unfold ic;split
 ·exact h
 ·split
  ·exact h
  ·split
   ·exact h
   ·exact a.rR _ _ _ (f _ _ (a.rR s _ _ h))
theorem B1 (f:pf P)(i:∀s t,P s->P (rec s t).2.2)(a:Nat):∀(d:List ag) (s:St),P s->P (j6 rec fs a d s).2.2
 |[],s,h=>h
 |w::d,s,h=>by
  have j:=LW (fs:=fs) f i h w a;unfold j6;split
  ·exact j
  ·exact B1 f i a d _ j
theorem LM (a:pf P)(d:∀s t,P s->P (rec s t).2.2){s:St}(h:P s)(op:Option Nat)(l:Ln):P (ew rec fs s op l).2.2.2:=by
 unfold ew;split
 ·exact a.sF s op l h
 ·split
  ·exact a.jz s l h
  ·split
   ·unfold kn;split
    ·exact h
    ·exact B1 a d _ _ _ h
   ·exact a.assign s l h
theorem yn (a:pf P)(d:∀s t,P s->P (rec s t).2.2):∀(xs:List (Ln×Nat)) (s:St) (op:Option Nat),P s->P (iq rec fs xs s op).2.2
 |[],s,op,h=>h
 |x::xs,s,op,h=>by
  have f:=LM (fs:=fs) a d h op x.1;unfold iq;split
  ·exact h
  ·split
   ·exact f
   ·exact yn a d xs _ _ f
theorem Cq (a:pf P):∀d s f,P s->P (iY fs d s f).2.2
 |0,s,_,h=>yn a (λ_ _ h=>h) _ s none h
 |d+1,s,_,h=>yn a (Cq a d) _ s none h
theorem yw (a:pf P)(h:P il)(d:ag):P (cI fs d).2.2:=by
 unfold cI;split
 ·exact h
 ·exact Cq a 3 il _ h
end
structure lJ (s:St):Prop where
 tg:∀n,s.of n≠[]->∃r∈s.aD,n∈r.tg
theorem Fy (a:Nat)(n:ag):∀(d:List ag) (s:St),(d.foldl (dH a) s).of n≠[]->s.of n≠[]\/n∈d
 |[],s,h=> .inl h
 |t::f,s,h=>by
  rw[Ux] at h;rcases Fy a n f (dH a s t) h with q|q
  ·by_cases e:n=t
   ·exact .inr (by rw[e];exact TY ..)
   ·refine .inl ?_;have i:(dH a s t).of n=s.of n:=by show mI s.of t (s.of t++[a]) n=s.of n;unfold mI;first|exact TJ e|exact TJ (λq=>e q.symm)
    rwa [i] at q
  ·exact .inr (TX _ q)
theorem lJ.add {s:St}(h:lJ s)(a i:List ag):lJ (bp s a i).2:=by
 have up:∀n m,(∃d∈s.aD,n∈d.tg)->∃d∈s.aD++[m],n∈d.tg:=λn m ⟨d,o,p⟩=>⟨d,Ul _ o,p⟩;unfold bp;split
 ·exact⟨h.tg⟩
 ·split
  ·exact⟨λn j=>up n _ (h.tg n j)⟩
  ·have key:∀f:ag,lJ (a.foldl (dH s.aD.length) {s with aD:=s.aD++[⟨a,bJ i [],[]⟩],first:=f}):=λf=>by
    have e:=(oW s.aD.length a {s with aD:=s.aD++[⟨a,bJ i [],[]⟩],first:=f}).2.1;refine⟨λn j=> ?_⟩;rw[e];rcases Fy _ n a _ j with q|q
    ·exact up n _ (h.tg n q)
    ·exact⟨⟨a,bJ i [],[]⟩,Un _ (TL.2 rfl),q⟩
   unfold lu;simp only;split
   ·exact key _
   ·exact key s.first
theorem OV:pf lJ where
 assign s l h:=by unfold gW;split<;>exact⟨h.tg⟩
 sF s op l h:=by
  unfold fT;split
  ·exact h
  ·split
   ·exact h
   ·rename_i d _ i m;split
    ·exact h
    ·refine⟨λn u=> ?_⟩;obtain⟨q,p,j⟩:=h.tg n u;obtain⟨o,f⟩:=Ze p;by_cases e:d=o
     ·subst e;rw[m] at f;cases f;have r:d<s.aD.length:=(TZ.1 m).1;exact⟨{i with cs:=i.cs++[(l.right,l.d')]},Vw (i:=d) (by simp[r]),j⟩
     ·exact⟨q,Vw (i:=o) (by rw[Za e];exact f),j⟩
 jz s l h:=by
  unfold fW;split
  ·exact h
  ·split
   ·exact h
   ·split
    ·exact h
    ·split
     ·exact h
     ·exact lJ.add (s:={s with n:=s.n+1}) ⟨h.tg⟩ _ _
 rR s a b h:=⟨h.tg⟩
theorem F8 (fs:List aI)(a:ag):lJ (cI fs a).2.2:=yw OV ⟨λ_ d=>absurd rfl d⟩ a
variable {j D:ag}
theorem qO {n:ag}(h:cS n=false):dJ n j=n:=by
 unfold cS Lib.contains at h;rw[VC] at h;have d:=Lib.index_ge n [37];have a:Lib.index n [37]= -1:=by omega
 unfold dJ Lib.replaceAll Lib.replace;split
 ·rfl
 ·have e:Lib.replaceNum n [37] (-1)=0:=by
   unfold Lib.replaceNum;rw[TP (.inl (by decide)),Lib.count_miss a]
  rw[e];rfl
theorem zx {s:St}{fs:List aI}{name:ag}:∀{us:List (Nat×List ag)} {a:Nat} {d:ag},jE s fs name us=some (a,d)->∃x∈us,x.1=a/\x.2.all (fU fs (je s) d)=true
 |[],_,_,h=>by cases h
 |x::j,a,d,h=>by
  rw[jE] at h;split at h
  ·rename_i q;cases h;exact⟨x,TY ..,rfl,q.2⟩
  ·obtain⟨y,i,f⟩:=zx h;exact⟨y,TX _ i,f⟩
def pD (s:St)(fs:List aI)(g:ag):List ag:=g::((s.aD.map (·.nd)).flatten++((s.aD.map (·.tg)).flatten++fs.map (·.aJ)))
theorem yX (f:Rl->List ag)(B:Nat):∀xs:List Rl,(∀a∈xs,(f a).length<=B)->(xs.map f).flatten.length<=xs.length*B
 |[],_=>by simp
 |x::a,h=>by have j:=yX f B a (λi d=>h i (TX _ d));have m:=h x (TY ..);rw[Ug,YR,TE,TK,VO];omega
section
variable {s:St} {fs:List aI} {g:ag} {k:Nat}
theorem pY (a:i<s.aD.length):bK s i∈s.aD:=by
 have e:bK s i=s.aD[i]:=by unfold bK;simp[a]
 rw[e];exact TV a
theorem Ac (a:i<s.aD.length){y:ag}(d:y∈(bK s i).nd):y∈pD s fs g:=TX _ (Ul _ (WJ.2 ⟨_,Uc.2 ⟨_,pY a,rfl⟩,d⟩))
theorem DD {xs:List Nat}(f:∀d∈xs,d<s.aD.length){y:ag}(a:y∈fu s xs):y∈pD s fs g:=by
 unfold fu at a;split at a
 ·rename_i i
  match xs,i,f,a with
  |[d],_,f,a=>exact Ac (f d (TY ..)) a
 ·rcases(nh _ _).2 y a with q|q
  ·obtain⟨z,i,j⟩:=WJ.1 q;obtain⟨d,m,rfl⟩:=Uc.1 i;exact Ac (f d m) j
  ·cases q
theorem Mr (o:lJ s){n:ag}(h:fU fs (je s) j n=true):dJ n j∈pD s fs g:=by
 unfold fU at h;rw[aaO] at h;rcases h with h|h
 ·cases a:Pl.look fs (dJ n j) with
  |none=>rw[a] at h;cases h
  |some f=>
   by_cases q:dJ n j∈fs.map (·.aJ)
   ·exact TX _ (Un _ (Un _ q))
   ·rw[wj.2 q] at a;cases a
 ·unfold je at h;have d:=Xe h;obtain⟨i,m,p⟩:=o.tg (dJ n j) (λe=>by rw[e] at d;cases d);exact TX _ (Un _ (Ul _ (WJ.2 ⟨_,Uc.2 ⟨i,m,rfl⟩,p⟩)))
theorem KC (d:Ok s k)(name:ag)(f:∀a∈s.of name,a<s.aD.length):(fu s (s.of name)).length<=256000000:=by
 have n:=d.ol name;have j:=d.tl;have o:=d.iP;have m:=wQ (λa=>(bK s a).nd) 2000 (s.of name) (λa i=>(qc d (f a i)).nl);unfold fu;split
 ·rename_i e
  match s.of name,e,f with
  |[a],_,f=>have:=(qc d (f a (TY ..))).nl;simp only[XC];omega
 ·have:=(nh (((s.of name).map λa=>(bK s a).nd).flatten) []).1;rw[T1] at this;omega
theorem Qs (p:Ok s k)(N:lJ s)(v:∀name,∀a∈s.of name,a<s.aD.length)(M:∀a∈s.bD,a<s.aD.length)(V:fs.length<=4000000000)(R:∀f∈fs,f.aJ.length<=1073741824)(Q:g.length<=1073741824):
 tN s fs (cB s fs s.bD) (pD s fs g) 256002000:=by
 have H:∀name a j,jE s fs name (cB s fs s.bD)=some (a,j)->a<s.aD.length/\∀n∈(bK s a).nd,dJ n j∈pD s fs g:=λname a j h=>by
  obtain⟨x,i,d,m⟩:=zx h;unfold cB at i;obtain⟨O,E,rfl⟩:=Uc.1 i;simp only at d m;subst d;have J:=M O (Vt.1 E).1;refine⟨J,λn I=> ?_⟩;by_cases G:cS n=true
  ·exact Mr N (Xo.1 m n (Vt.2 ⟨I,G⟩))
  ·rw[qO (by simpa using G)];exact Ac J I
 refine⟨λname y o=> ?_,λname=> ?_,by decide,?_,λy o=> ?_⟩
 ·have u:y∈(pz s name).aF->y∈pD s fs g:=λh=>DD (v name) h;unfold ea at o;split at o
  ·split at o
   ·rename_i a j e;obtain⟨i,d⟩:=H name a j e;rcases(nh _ _).2 y o with q|q
    ·rcases T4.1 q with q|q
     ·obtain⟨n,m,rfl⟩:=Uc.1 q;exact d n m
     ·exact DD (v name) q
    ·cases q
   ·exact u o
  ·exact u o
 ·have S:=KC p name (v name);have u:(pz s name).aF.length<=256002000:=by show(fu s (s.of name)).length<=_;omega
  unfold ea;split
  ·split
   ·rename_i a j e;have i:=(qc p (H name a j e).1).nl;have d:=(nh (((bK s a).nd.map λn=>dJ n j)++fu s (s.of name)) []).1;rw[TE,TR,T1] at d;show(bJ (((bK s a).nd.map λn=>dJ n j)++fu s (s.of name)) []).length<=_;omega
   ·exact u
  ·exact u
 ·have i:=yX (·.nd) 2000 s.aD (λr D=>(p.rs r D).nl);have d:=yX (·.tg) 2000 s.aD (λr D=>(p.rs r D).tl);have m:=p.rl;have E:=p.iP;unfold pD;rw[TK,TE,TE,TR];omega
 ·rcases Ue.1 o with q|q
  ·rw[q];exact Q
  ·rcases T4.1 q with q|q
   ·obtain⟨z,i,d⟩:=WJ.1 q;obtain⟨r,m,rfl⟩:=Uc.1 i;have:=(p.rs r m).nw y d;omega
   ·rcases T4.1 q with q|q
    ·obtain⟨z,i,d⟩:=WJ.1 q;obtain⟨r,m,rfl⟩:=Uc.1 i;have:=(p.rs r m).tw y d;omega
    ·obtain⟨f,i,rfl⟩:=Uc.1 q;exact R f i
end
def my:List ag->List ag->List ag
 |[],_=>[]
 |x::d,a=>if x∈a then my d a else x::my d (a++[x])
theorem uK:∀(l a:List ag),bJ l a=a++my l a
 |[],a=>by unfold bJ my;rw[Vs]
 |x::d,a=>by
  unfold bJ my;split
  ·exact uK d a
  ·rw[uK d (a++[x]),Ub];rfl
theorem xm (f:ag->ag):∀(l a c:List ag),(∀x∈a,f x∈c)->my ((my l a).map f) c=my (l.map f) c
 |[],_,_,_=>rfl
 |x::j,a,c,h=>by
  rw[Ug];by_cases m:x∈a
  ·rw[my,TP m,xm f j a c h,my,TP (h x m)]
  ·rw[my,TJ m,Ug,my,my];by_cases i:f x∈c
   ·rw[TP i,TP i];exact xm f j (a++[x]) c λy d=>by
     rcases T4.1 d with d|d
     ·exact h y d
     ·rw[TL.1 d];exact i
   ·rw[TJ i,TJ i];congr 1;exact xm f j (a++[x]) (c++[f x]) λy d=>by
     rcases T4.1 d with d|d
     ·exact Ul _ (h y d)
     ·rw[TL.1 d];exact Un _ (TL.2 rfl)
theorem Fu (f:ag->ag)(l c:List ag):bJ ((bJ l []).map f) c=bJ (l.map f) c:=by rw[uK l [],UI,uK,uK,xm f l [] c λx a=>(by cases a)]
theorem wF (l c:List ag):bJ (bJ l []) c=bJ l c:=by have:=Fu id l c;rwa [abe,abe] at this
theorem wL:∀(l m a:List ag),bJ (l++m) a=bJ m (bJ l a)
 |[],_,_=>rfl
 |x::d,m,a=>by
  rw[UE,bJ,bJ];split
  ·exact wL d m a
  ·exact wL d m _
theorem uw:∀(l a:List ag) (x:ag),x∈bJ l a↔x∈a\/x∈l
 |[],a,x=>by simp[bJ]
 |y::d,a,x=>by
  unfold bJ;split
  ·rename_i f;rw[uw d a x,Ue];constructor
   ·rintro(h|h)
    ·exact .inl h
    ·exact .inr (.inr h)
   ·rintro(h|rfl|h)
    ·exact .inl h
    ·exact .inl f
    ·exact .inr h
  ·rw[uw d _ x,T4,TL,Ue,or_assoc]
theorem GY:∀(l a:List ag),(∀x∈l,x∈a)->bJ l a=a
 |[],_,_=>rfl|x::d,a,h=>by rw[bJ,TP (h x (TY ..)),GY d a λy f=>h y (TX _ f)]
theorem vL:∀(l a:List ag),l.foldl cX a=bJ l a
 |[],_=>rfl
 |x::d,a=>by
  rw[Ux,bJ];unfold cX dO;by_cases h:x∈a
  ·rw[TP (Uz h),TP h];exact vL d a
  ·rw[TJ (by rw[U6];exact h),TJ h];exact vL d _
def eC (b:Bk)(x:Nr):cA:=⟨x.name,x.ph,x.aF,x.stem,match x.gu with|none=>[]|some a=>(b.aD.getD a cQ).cs⟩
theorem vM {p:Ru->Bool}(rs:List Ru):((List.range rs.length).find? λa=>p (rs.getD a cQ))=none/\rs.find? p=none\/∃a n,((List.range rs.length).find? λa=>p (rs.getD a cQ))=some a/\rs.find? p=some n/\a<rs.length/\rs.getD a cQ=n:=by
 cases j:(List.range rs.length).find? λa=>p (rs.getD a cQ) with
 |none=>refine .inl ⟨rfl,?_⟩;rw[Vm] at j⊢;intro n y;obtain⟨a,f,rfl⟩:=U8 y;have:=j a (VE.2 f);rwa [TO,TH f] at this
 |some a=>
  obtain⟨r,m,E,o,z⟩:=List.find?_eq_some_iff_append.1 j;have f:a<rs.length:=VE.1 (Uw j);have e:rs.getD a cQ=rs[a]:=by rw[TO,TH f];rfl
  refine .inr ⟨a,rs[a],rfl,?_,f,e⟩;rw[WC];rw[e] at r;refine⟨r,a,f,rfl,λd G=> ?_⟩;have H:m.length=a:=by
   have i:(List.range rs.length)[m.length]?=some a:=by rw[o,Uq ak];simp
   obtain⟨_,v⟩:=TZ.1 i;simpa using v
  have D:d∈m:=by
   have i:(List.range rs.length)[d]?=m[d]?:=by rw[o,UZ (by omega)]
   have u:(List.range rs.length)[d]?=some d:=by rw[TH (by rw[List.length_range];omega)];simp
   rw[u] at i;exact Vw i.symm
  have x:=z d D;rwa [TO,TH (by omega)] at x
theorem yB:∀(n d:ag),cH n d=if n.contains 37=true then Mk.bj 37 n++(d++bQ 37 n) else n
 |[],_=>rfl
 |c::a,d=>by
  have p:=yB a d;unfold cH;by_cases f:c=37
  ·subst f;rw[TP rfl,TP (by simp)];simp[Mk.bj,bQ]
  ·rw[TJ f,p];have i:(c==37)=false:=by simpa using f
   have j:((37:UInt8)==c)=false:=by simpa using λe=>f e.symm
   have m:(c::a).contains 37=a.contains 37:=by rw[UL,j,VV]
   have r:Mk.bj 37 (c::a)=c::Mk.bj 37 a:=by unfold Mk.bj;rw[U9,i];rfl
   have o:bQ 37 (c::a)=bQ 37 a:=by unfold bQ;rw[Vh,i];rfl
   rw[m,r,o];split<;>rfl
theorem zk:∀(n:ag),n.contains 37=true->n=Mk.bj 37 n++37::bQ 37 n
 |[],h=>by cases h
 |c::a,h=>by
  by_cases d:c=37
  ·subst d;simp[Mk.bj,bQ]
  ·have f:(c==37)=false:=by simpa using d
   have i:((37:UInt8)==c)=false:=by simpa using λe=>d e.symm
   rw[UL,i,VV] at h;have m:Mk.bj 37 (c::a)=c::Mk.bj 37 a:=by unfold Mk.bj;rw[U9,f];rfl
   have j:bQ 37 (c::a)=bQ 37 a:=by unfold bQ;rw[Vh,f];rfl
   rw[m,j,UE,<-zk a h]
theorem JE (a:ag)(k:Nat){s:ag}(h:s.contains 37=false):Lib.replaceK [37] a k s=s:=by
 cases k with
 |zero=>rfl|succ k=>rw[Lib.replaceK,(ud 37 s).2 h];rfl
theorem Pm {n A E:ag}(h:n=A++37::E):n.take A.length=A/\n.drop (A.length+1)=E:=by subst h;refine⟨by simp,?_⟩;rw[<-Ws];simp
theorem vY {n:ag}(h:dP n<=1):dJ n j=cH n j:=by
 rw[yB];cases f:n.contains 37 with
 |false=>rw[TJ (by decide)];exact qO (by rw[uB];unfold dP;rw[ZJ.2 (by simpa using f)];rfl)
 |true=>
  rw[TP rfl];have a:=zk n f;have i:=(ud 37 n).1 f;have u:(bQ 37 n).contains 37=false:=by
   unfold dP at h;have m:List.count 37 n=List.count 37 (Mk.bj 37 n)+List.count 37 (37::bQ 37 n):=by rw[<-ZV,<-a]
   rw[aa7] at m;have:List.count 37 (bQ 37 n)=0:=by omega
   simpa using ZJ.1 this
  unfold dJ Lib.replaceAll Lib.replace;split
  ·rename_i v;have z :[37]=j:=by simpa using v
   rw[<-z];exact a
  ·have d:∃k,Lib.replaceNum n [37] (-1)=k+1:=by
    unfold Lib.replaceNum;rw[TP (.inl (by decide))];unfold Lib.count;rw[Lib.countFrom,i];have o:(((Mk.bj 37 n).length:Int)== -1)=false:=by rw[TQ];omega
    rw[o];exact⟨_,by simp only[Uj,Vk];rw[abd]⟩
   obtain⟨k,d⟩:=d;rw[d,Lib.replaceK_hit _ _ _ _ _ i];obtain⟨p,y⟩:=Pm a;have r:List.drop (List.length (Mk.bj 37 n)+List.length [(37:UInt8)]) n=bQ 37 n:=y;rw[p];refine Eq.trans (TU (λx=>_++Lib.replaceK [37] j k x) r) ?_;rw[JE _ _ u,Ub]
theorem Gc {name:ag}(h:0<dP j):((iu name j).2=true↔fN j name≠[])/\((iu name j).2=true->(iu name j).1=fN j name):=by
 have p:j.contains 37=true:=by have:=ZI.1 h;simpa using this
 have z:=zk j p;have H:j.length=(Mk.bj 37 j).length+1+(bQ 37 j).length:=by
  conv=>lhs;rw[z]
  rw[TE,TK];omega
 unfold iu fN;rw[yB,TP p];generalize Mk.bj 37 j=A at*;generalize bQ 37 j=E at*;by_cases o:name.length<=A.length+E.length
 ·rw[TP o,TP (show name.length<j.length by omega)];exact⟨⟨λe=>(by cases e),λe=>absurd rfl e⟩,λe=>(by cases e)⟩
 ·rw[TJ o,TJ (show ¬name.length<j.length by omega)];have D:name.length-j.length+1=name.length-A.length-E.length:=by omega
  rw[D];have G:((name.drop A.length).take (name.length-A.length-E.length))≠[]:=by intro e;have:=TU List.length e;rw[Um,UM] at this;simp only[T1] at this;omega
  have key:(A++(((name.drop A.length).take (name.length-A.length-E.length))++E)=name)↔(Lib.hasPrefix name A&&Lib.hasSuffix (Lib.trimPrefix name A) E)=true:=by
   rw[U0];constructor
   ·intro e;have a:A<+:name:=⟨_,e⟩;have n :Lib.hasPrefix name A=true:=XQ.2 a;refine⟨n,?_⟩;unfold Lib.trimPrefix;rw[TP n];refine XP.2 ⟨(name.drop A.length).take (name.length-A.length-E.length),?_⟩;have:=TU (List.drop A.length) e;rwa [Y' ak,Wm,UI] at this
   ·rintro⟨a,f⟩;unfold Lib.trimPrefix at f;rw[TP a] at f;obtain⟨u,d⟩:=XP.1 f;obtain⟨v,i⟩:=XQ.1 a;have r:name.drop A.length=v:=by rw[<-i];simp
    rw[r] at d⊢;have y:name.length-A.length-E.length=u.length:=by
     have:name.length=A.length+v.length:=by rw[<-i,TE]
     have:v.length=u.length+E.length:=by rw[<-d,TE]
     omega
    rw[y,<-d,Xr ak,Us,d,i]
  have x:(Lib.hasPrefix name A&&Lib.hasSuffix (Lib.trimPrefix name A) E)=true->Lib.trimSuffix (Lib.trimPrefix name A) E=(name.drop A.length).take (name.length-A.length-E.length):=λe=>by rw[U0] at e;unfold Lib.trimSuffix;rw[TP e.2];unfold Lib.trimPrefix;rw[TP e.1,UM]
  constructor
  ·constructor
   ·intro e;rw[TP (key.2 e)];exact G
   ·intro e;by_cases m:A++(((name.drop A.length).take (name.length-A.length-E.length))++E)=name
    ·exact key.1 m
    ·rw[TJ m] at e;exact absurd rfl e
  ·intro e;rw[TP (key.2 e)];exact x e
def lE (t:ag):Nat->List (List ag)->List Nat
 |_,[]=>[]
 |k,g::a=>lG t k g++lE t (k+1) a
def nC:Nat->List (List ag)->List Nat
 |_,[]=>[]
 |k,g::a=>(if gJ g=true then [k] else [])++nC (k+1) a
theorem Cr (t:ag)(g:List ag):∀(T:List (List ag)) (k:Nat),lE t k (T++[g])=lE t k T++lG t (k+T.length) g
 |[],k=>by simp[lE]
 |x::T,k=>by rw[UE,lE,lE,Cr t g T (k+1),Ub,TK,Nat.add_right_comm,Xj]
theorem Dr (g:List ag):∀(T:List (List ag)) (k:Nat),nC k (T++[g])=nC k T++if gJ g=true then [k+T.length] else []
 |[],k=>by simp[nC]
 |x::T,k=>by rw[UE,nC,nC,Dr g T (k+1),Ub,TK,Nat.add_right_comm,Xj]
theorem AH (t:ag):∀(n:Nat) (T:List (List ag)),T.length=n->mM T t=lE t 0 T/\rE T=nC 0 T
 |0,T,h=>by have:=UH.1 h;subst this;exact⟨rfl,rfl⟩
 |n+1,T,h=>by
  have f:T≠[]:=λe=>by rw[e] at h;cases h
  have e:=Wg f;have a:T.dropLast.length=n:=by rw[aa4];omega
  obtain⟨i,d⟩:=AH t n T.dropLast a;rw[<-e,DN,Eo,Cr,Dr,i,d,Ur];exact⟨rfl,rfl⟩
variable {m:Ru}{a:List ag}
section
variable {s:St} {fs:List aI} {rs:List Ru} {t:ag}
theorem NY (a:Ru)(l:List Ru):dv (a::l)=(if a.ph=true then [] else [iS a])++dv l:=by unfold dv;rw[Wo];cases a.ph<;>rfl
theorem wK (a:Ru)(l:List Ru):eI (a::l)=(if a.ph=true then [] else [a.tg])++eI l:=by unfold eI;rw[Wo];cases a.ph<;>rfl
theorem PQ (a l:List Ru):dv (a++l)=dv a++dv l:=by unfold dv;rw[VQ,T']
theorem AB (i:s.aD=dv rs){a f:List Ru}(e:rs=a++m::f)(d:m.ph=false):bK s (dv a).length=iS m:=by unfold bK;rw[i,e,PQ,NY,d,TO,Uq ak];simp
theorem D0 (k:Nat)(a:List Nat):∀(l:List ag),gA s ((l.map λ_=>k)++a)=if l=[] then gA s a else if 0<(bK s k).cs.length then(bK s k).cs else gA s a
 |[]=>rfl
 |x::l=>by
  rw[Ug,UE,gA,D0 k a l,TJ (List.cons_ne_nil _ _)];split
  ·rfl
  ·split<;>rfl
theorem sq :a.filter (·==t)=[]↔dO t a=false:=by
 rw[List.filter_eq_nil_iff];unfold dO;rw[VC];constructor
 ·intro h e;exact h t e (by simp)
 ·intro h x d e;have:x=t:=by simpa using e
  exact h (this▸d)
def xG (rs:List Ru):Prop:=∀a∈rs,a.b_=eJ a.tg/\eJ a.tg=gJ a.tg/\(eJ a.tg=true->∃x,a.tg=[x])/\a.tg≠[]/\(∀x∈a.tg,x≠[])/\(a.ph=true->a.cs=[])/\∀n∈a.nd,dP n<=1
theorem FM (u:s.aD=dv rs)(p:xG rs):∀(f j:List Ru),rs=j++f->gA s (lE t (dv j).length (eI f))=((f.find? (eP t)).map (·.cs)).getD []
 |[],_,_=>rfl
 |a::f,j,e=>by
  have x :rs=(j++[a])++f:=by rw[Ub];exact e
  have d:=FM u p f (j++[a]) x;obtain⟨o,r,-⟩:=p a (by rw[e];exact Un _ (TY ..));rw[wK,UT];rw[p9] at d;cases i:a.ph with
  |true=>
   rw[i] at d;simp only[Vn,Vs,UI] at d⊢;rw[d];have:eP t a=false:=by unfold eP;rw[i];simp
   rw[this]
  |false=>
   rw[i] at d;simp only[Uj,Vk,TE,T6] at d⊢;rw[Wc,lE];unfold lG;cases v:gJ a.tg with
   |true=>
    have:eP t a=false:=by unfold eP;rw[o,r,v];simp
    rw[this,TP rfl];exact d
   |false=>
    rw[TJ (by decide),D0,d,AB u e i];unfold eP;rw[o,r,v,i];simp only[XS,Vz];cases n:dO t a.tg with
    |false=>rw[TP (sq.2 n)];rfl
    |true=>
     rw[TJ (λq=>by rw[sq.1 q] at n;cases n)];by_cases m:0<a.cs.length
     ·rw[TP (show 0<(iS a).cs.length from m),Uz m];rfl
     ·rw[TJ (show ¬0<(iS a).cs.length from m),UA m];rfl
theorem EW (k:Nat)(d:List ag)(i:(bK s k).nd=bJ d [])(f:List ag):∀(l a:List ag),bJ (((l.map λ_=>k).map λj=>(bK s j).nd).flatten++f) a=if l=[] then bJ f a else bJ f (bJ d a)
 |[],a=>rfl
 |x::l,a=>by
  rw[TJ (List.cons_ne_nil _ _),Ug,Ug,YR,Ub,wL,EW k d i f l,i,wF];split
  ·rfl
  ·rw[GY d (bJ d a) λx m=>(uw d a x).2 (.inr m)]
theorem DT (p:s.aD=dv rs)(u:xG rs):∀(i m:List Ru) (a:List ag),rs=m++i->bJ ((lE t (dv m).length (eI i)).map λx=>(bK s x).nd).flatten a=i.foldl (λa d=>if de t d=true then d.nd.foldl cX a else a) a
 |[],_,_,_=>rfl
 |d::i,m,a,e=>by
  have y :rs=(m++[d])++i:=by rw[Ub];exact e
  have f:=λa=>DT p u i (m++[d]) a y;obtain⟨o,v,-⟩:=u d (by rw[e];exact Un _ (TY ..));rw[wK,Ux];rw[p9] at f;cases j:d.ph with
  |true=>
   rw[j] at f;simp only[Vn,Vs,UI] at f⊢;rw[f];have:de t d=false:=by unfold de;rw[j];simp
   rw[this];rfl
  |false=>
   rw[j] at f;simp only[Uj,Vk,TE,T6] at f;rw[TJ (by decide),Wc,lE];unfold lG;cases r:gJ d.tg with
   |true=>
    have:de t d=false:=by unfold de;rw[o,v,r];simp
    rw[this,TP rfl];exact f a
   |false=>
    rw[TJ (by decide),T',Zl,EW _ d.nd (by rw[AB p e j];rfl),f,f];unfold de;rw[o,v,r,j];simp only[XS,X0];cases n:dO t d.tg with
    |false=>rw[TP (sq.2 n)];rfl
    |true=>rw[TJ (λq=>by rw[sq.1 q] at n;cases n),TP rfl,vL]
theorem Fb (n:xG rs):∀(f i:List Ru),rs=i++f->decide (0<(lE t (dv i).length (eI f)).length)=f.any (de t)
 |[],_,_=>rfl
 |a::f,i,e=>by
  have r :rs=(i++[a])++f:=by rw[Ub];exact e
  have d:=Fb n f (i++[a]) r;obtain⟨o,p,-⟩:=n a (by rw[e];exact Un _ (TY ..));rw[wK,VI];rw[p9] at d;cases j:a.ph with
  |true=>
   rw[j] at d;simp only[Vn,Vs,UI] at d⊢;rw[d];have:de t a=false:=by unfold de;rw[j];simp
   rw[this,VV]
  |false=>
   rw[j] at d;simp only[Uj,Vk,TE,T6] at d;rw[TJ (by decide),Wc,lE,TE,<-d];unfold lG de;rw[o,p,j];cases u:gJ a.tg with
   |true=>simp
   |false=>
    rw[TJ (by decide),TR];simp only[XS,X0];cases m:dO t a.tg with
    |false=>rw[sq.2 m];simp
    |true=>
     have:0<(a.tg.filter (·==t)).length:=Uy.2 λq=>by rw[sq.1 q] at m;cases m
     rw[aaA];exact Uz (by omega)
end
section
variable {s:St} {b:Bk} {fs:List aI}
theorem dr.ok (h:dr s b):xG b.aD:=h.ru
theorem dr.nW (h:dr s b)(t:ag):s.of t=lE t (dv []).length (eI b.aD):=by rw[h.of,(AH t _ _ rfl).1];rfl
theorem dr.Ss (h:dr s b):s.bD=nC (dv []).length (eI b.aD):=by rw[h.bD,(AH [] _ _ rfl).2];rfl
theorem dr.tg (h:dr s b)(t:ag):je s t=jT b t:=by unfold je;rw[h.nW];exact Fb h.ok b.aD [] rfl
theorem dr.jt (h:dr s b)(t:ag):decide (t∈s.ph)=ft b t:=by
 unfold ft;have f:t∈s.ph↔(b.aD.any λa=>dO t a.nd&&a.ph)=true:=by
  rw[h.ph,VD];constructor
  ·rintro⟨a,f,d,j⟩;exact⟨a,f,by unfold dO;rw[d,Uz j];rfl⟩
  ·rintro⟨a,f,d⟩;unfold dO at d;rw[U0,U6] at d;exact⟨a,f,d.2,d.1⟩
 cases i:(b.aD.any λa=>dO t a.nd&&a.ph) with
 |true=>exact Uz (f.2 i)|false=>exact UA λe=>by rw[f.1 e] at i;cases i
theorem dr.aH (h:dr s b)(t:ag):gA s (s.of t)=((b.aD.find? (eP t)).map (·.cs)).getD []:=by rw[h.nW];exact FM h.rl h.ok b.aD [] rfl
theorem dr.aF (h:dr s b)(t:ag)(a:List ag):bJ (fu s (s.of t)) a=lA b t a:=by
 have d:=DT (t:=t) h.rl h.ok b.aD [] a rfl;rw[<-h.nW] at d;have m:∀i∈s.of t,i<s.aD.length:=λi j=>by
  rw[h.of] at j;unfold mM at j;obtain⟨u,p,f⟩:=Wp.1 j;have n:=VE.1 p;unfold lG at f;split at f
  ·cases f
  ·obtain⟨x,-,rfl⟩:=Uc.1 f;rw[h.rl,<-wW];exact n
 unfold fu;split
 ·rename_i o
  match r:s.of t,o with
  |[i],_=>rw[r] at d m;simp only[Ug,VL,YR,List.flatten_nil,Vs] at d;exact d
 ·rw[wF];exact d
theorem dr.Rb (h:dr s b)(t:ag):fu s (s.of t)=lA b t []:=by
 rw[<-h.aF];have j:∀a∈s.of t,a<s.aD.length:=λa d=>by
  rw[h.of] at d;unfold mM at d;obtain⟨v,r,f⟩:=Wp.1 d;have n:=VE.1 r;unfold lG at f;split at f
  ·cases f
  ·obtain⟨x,-,rfl⟩:=Uc.1 f;rw[h.rl,<-wW];exact n
 unfold fu;split
 ·rename_i o
  match u:s.of t,o with
  |[a],_=>
   rw[u] at j;have d:=j a (TL.2 rfl);have e:bK s a=s.aD[a]:=by unfold bK;rw[TO,TH d];rfl
   have i:=TV d;rw[<-e,h.rl] at i;unfold dv at i;obtain⟨m,-,p⟩:=Uc.1 i;show(bK s a).nd=bJ (bK s a).nd [];rw[<-p];exact(wF m.nd []).symm
 ·rw[wF]
end
section
variable {s:St} {b:Bk} {fs:List aI} {name:ag}
theorem QZ (xs ys:List Nat):cB s fs (xs++ys)=cB s fs xs++cB s fs ys:=by unfold cB;rw[VQ,T']
theorem Cy (h:dr s b){n:ag}(a:dP n<=1):fU fs (je s) j n=jR b fs (cH n j):=by unfold fU jR;rw[vY a,h.tg]
theorem Qb (h:dr s b)(H:m∈b.aD)(v:m.b_=true){k:Nat}(I:bK s k=iS m):(rF s fs k=true/\(iu name ((bK s k).tg.headD [])).2=true/\(rZ s k).all (fU fs (je s) (iu name ((bK s k).tg.headD [])).1)=true)↔gn b fs name m=true:=by
 obtain⟨p,R,M,V,S,Q,j⟩:=h.ru m H;rw[v] at p;obtain⟨x,z⟩:=M p.symm;have G:0<dP x:=by have:=p.symm;rw[z] at this;unfold eJ at this;simpa using this
 have E:m.tg.headD []=x:=by rw[z];rfl
 obtain⟨y,D⟩:=Gc (name:=name) G;unfold rF xJ rZ gn;rw[I];show _/\(iu name (m.tg.headD [])).2=true/\((bJ m.nd []).filter cS).all (fU fs (je s) (iu name (m.tg.headD [])).1)=true↔_;rw[E,v,Vz];have N:∀n,n∈bJ m.nd []↔n∈m.nd:=λn=>by rw[uw];simp
 have J:(iS m).nd=bJ m.nd []:=rfl;have O:(iS m).cs=m.cs:=rfl;rw[J,O];simp only[U0,U6,Xo,Vt,N];constructor
 ·rintro⟨⟨u,r⟩,i,o⟩;refine⟨u,y.1 i,λn a=> ?_⟩;rw[<-D i];cases d:cS n with
  |true=>rw[<-Cy h (j n a)];exact o n ⟨a,d⟩
  |false=>have f:=r n ⟨a,by rw[d];rfl⟩;unfold fU at f;rw[qO d,h.tg] at f;unfold jR;rw[<-vY (j n a),qO d];exact f
 ·rintro⟨u,r,i⟩;have o:=y.2 r;refine⟨⟨u,λn a=> ?_⟩,o,λn a=> ?_⟩
  ·have d:cS n=false:=by simpa using a.2
   have f:=i n a.1;unfold jR at f;rw[<-vY (j n a.1),qO d] at f;unfold fU;rw[qO d,h.tg];exact f
  ·rw[Cy h (j n a.1),D o];exact i n a.1
theorem GZ (h:dr s b):∀(i d:List Ru),b.aD=d++i->(jE s fs name (cB s fs (nC (dv d).length (eI i)))=none/\i.find? (gn b fs name)=none)\/∃M a,jE s fs name (cB s fs (nC (dv d).length (eI i)))=some (M,fN (a.tg.headD []) name)/\i.find? (gn b fs name)=some a/\bK s M=iS a
 |[],_,_=> .inl ⟨rfl,rfl⟩
 |a::i,d,e=>by
  have S :b.aD=(d++[a])++i:=by rw[Ub];exact e
  have f:=GZ h i (d++[a]) S;have E:a∈b.aD:=by rw[e];exact Un _ (TY ..)
  obtain⟨u,I,R,Z,k5,Q,V⟩:=h.ru a E;rw[wK,UT];rw[p9] at f;cases n:a.ph with
  |true=>
   have v:gn b fs name a=false:=by unfold gn;rw[Q n];simp
   rw[n] at f;rw[v];simp only[Vn,Vs,UI] at f⊢;exact f
  |false=>
   rw[n] at f;simp only[Uj,Vk,TE,T6] at f;rw[TJ (by decide),Wc,nC,QZ];cases G:gJ a.tg with
   |false=>
    have v:gn b fs name a=false:=by unfold gn;rw[u,I,G];simp
    rw[v];exact f
   |true=>
    have H:a.b_=true:=by rw[u,I,G]
    have r:=AB h.rl e n;have z:=Qb (name:=name) (fs:=fs) h E H r;rw[TP rfl];have m:∃x,a.tg=[x]/\0<dP x:=by have o:eJ a.tg=true:=u.symm.trans H;obtain⟨x,m⟩:=R o;refine⟨x,m,?_⟩;rw[m] at o;unfold eJ at o;simpa using o
    obtain⟨x,m,O⟩:=m;by_cases p:rF s fs (dv d).length=true
    ·have y:cB s fs [(dv d).length]=[((dv d).length,rZ s (dv d).length)]:=by unfold cB;rw[Wo,TP p];rfl
     rw[y,Wc,jE];by_cases j:(iu name ((bK s (dv d).length).tg.headD [])).2=true/\(rZ s (dv d).length).all (fU fs (je s) (iu name ((bK s (dv d).length).tg.headD [])).1)=true
     ·rw[TP j,z.1 ⟨p,j⟩];refine .inr ⟨_,a,?_,rfl,r⟩;have D:a.tg.headD []=x:=by rw[m];rfl
      have N:=(Gc (name:=name) O).2;rw[r] at j;have J:(iS a).tg.headD []=x:=D;rw[r,J,D];rw[J] at j;rw[N j.1]
     ·rw[TJ j];have:gn b fs name a=false:=YT.2 λq=>j (z.2 q).2;rw[this];exact f
    ·have y:cB s fs [(dv d).length]=[]:=by unfold cB;rw[Wo,TJ p];rfl
     rw[y,UI];have:gn b fs name a=false:=YT.2 λq=>p (z.2 q).1;rw[this];exact f
theorem Oy (h:dr s b)(name:ag):ea s fs (cB s fs s.bD) name=(eC b (cT b fs name).1,(cT b fs name).2):=by
 have z:=h.aH name;have u:=h.jt name;have y:oJ s fs name=(jT b name||(ft b name||(Pl.look fs name).isSome)):=by unfold oJ;rw[h.tg,u,Y9]
 have H:fD b.aD name (-1)=(List.range b.aD.length).find? λj=>eP name (b.aD.getD j cQ):=by unfold fD;congr 1
 have N:∀d,eP name d=true->0<d.cs.length:=λd m=>by unfold eP at m;simp only[U0,U6] at m;exact m.2.2.2
 have x:pz s name=eC b ⟨name,lA b name [],fD b.aD name (-1),[],ft b name⟩:=by
  unfold pz eC;rw[h.Rb,u,z,H];rcases vM (p:=eP name) b.aD with⟨f,a⟩|⟨j,d,f,a,-,i⟩
  ·rw[f,a];rfl
  ·rw[f,a];simp only[XB,YZ];rw[i]
 have D:((gA s (s.of name)).length=0/\decide (name∈s.ph)=false)↔(fD b.aD name (-1)=none/\ft b name=false):=by
  rw[u,z,H];rcases vM (p:=eP name) b.aD with⟨f,a⟩|⟨j,d,f,a,-,i⟩
  ·rw[f,a];simp
  ·rw[f,a];have:=N d (aaP a);simp only[XB,YZ];constructor
   ·rintro⟨q,-⟩;omega
   ·rintro⟨q,-⟩;cases q
 unfold ea cT;by_cases r:fD b.aD name (-1)=none/\ft b name=false
 ·rw[TP (D.2 r),TP r];have E:=GZ (fs:=fs) (name:=name) h b.aD [] rfl;rw[<-h.Ss] at E;have G:jD b fs name=(List.range b.aD.length).find? λj=>gn b fs name (b.aD.getD j cQ):=rfl;rcases E with⟨v,o⟩|⟨j,d,v,o,S⟩
  ·rcases vM (p:=gn b fs name) b.aD with⟨f,a⟩|⟨J,I,f,a,-,i⟩
   ·rw[v,G,f];simp only;rw[x,y,r.1]
   ·rw[o] at a;cases a
  ·rcases vM (p:=gn b fs name) b.aD with⟨f,a⟩|⟨J,I,f,a,-,i⟩
   ·rw[o] at a;cases a
   ·rw[o] at a;cases a;rw[v,G,f];simp only;rw[i];have m:d∈b.aD:=Uw o;obtain⟨-,-,-,-,-,-,M⟩:=h.ru d m;unfold xS eC;simp only;rw[S,u,i];have O:((iS d).nd.map λn=>dJ n (fN (d.tg.headD []) name))=(iS d).nd.map λn=>cH n (fN (d.tg.headD []) name):=Xl λn R=>vY (M n (by have:n∈bJ d.nd []:=R;rw[uw] at this;exact this.resolve_left (λq=>by cases q)));rw[O,wL,h.aF];have Q:(iS d).nd=bJ d.nd []:=rfl;rw[Q,Fu (λn=>cH n (fN (d.tg.headD []) name)),vL];rfl
 ·rw[TJ (λq=>r (D.1 q)),TJ r,x,y]
end
theorem tX {d i:Wk->ag->Option (Nat×Wk)}(h:∀t n q,d t n=some q->i t n=some q):∀(l:List ag) (t:Wk) (q:Nat×Wk),fJ d l t=some q->fJ i l t=some q
 |[],t,q,e=>e
 |n::l,t,q,e=>by
  unfold fJ at e⊢;cases j:dj t.aQ n with
  |none=>
   rw[j] at e;simp only at e⊢;cases f:d t n with
   |none=>rw[f] at e;cases e
   |some m=>
    rw[f] at e;rw[h t n m f];simp only at e⊢;split at e
    ·rename_i a;rw[TP a];exact e
    ·rename_i a;rw[TJ a];exact tX h l _ q e
  |some m=>
   rw[j] at e;simp only at e⊢;split at e
   ·rename_i a;rw[TP a];exact tX h l _ q e
   ·rename_i a;rw[TJ a];exact e
theorem yr (b:Bk)(fs:List aI):∀(f:Nat) (t:Wk) (n:ag) (q:Nat×Wk),dZ b fs f t n=some q->dZ b fs (f+1) t n=some q
 |0,_,_,_,e=>by cases e
 |f+1,t,n,q,e=>by
  rw[dZ] at e⊢;split at e
  ·rename_i d;rw[TP d];exact e
  ·rename_i d;rw[TJ d];cases a:fJ (dZ b fs f) (cT b fs n).1.aF (eG t (cT b fs n).1) with
   |none=>rw[a] at e;cases e
   |some i=>rw[a] at e;rw[tX (yr b fs f) _ _ _ a];exact e
theorem LS (b:Bk)(fs:List aI){f g:Nat}(h:f<=g):∀(t:Wk) (n:ag) (q:Nat×Wk),dZ b fs f t n=some q->dZ b fs g t n=some q:=by
 induction h with
 |refl=>exact λ_ _ _ e=>e
 |step _ a=>exact λt n q e=>yr b fs _ t n q (a t n q e)
theorem Ap (k:ag)(v:Nat):∀(fl:dM) (n:ag),bG (cL fl k v) n=if k=n then v else bG fl n
 |[],n=>by
  unfold bG cL;rw[Zd];by_cases h:k=n
  ·simp[h]
  ·simp[h]
 |x::i,n=>by
  have f:=Ap k v i n;unfold bG at f⊢;rw[cL];cases d:x.1==k with
  |true=>
   simp only[Vn];have e:x.1=k:=by simpa using d
   rw[UT,UT,e];by_cases h:k=n
   ·simp[h]
   ·have:(k==n)=false:=by simpa using h
    simp[h,this]
  |false=>
   simp only[Uj,Vk];rw[UT,UT (a:=x)];cases h:x.1==n with
   |true=>
    have j:¬k=n:=λe=>by rw[TQ] at d;exact d (by rw[e];simpa using h)
    simp[j]
   |false=>exact f
structure jB (b:Bk)(t:Wk)(w:cE):Prop where
 fl:∀n,bG w.bF n=match dj t.aQ n with|none=>0|some p=>if(bS t p).2=true then 2 else 1
 nd:(t.aQ.map (·.1.name)).Nodup
 lt:∀i∈t.aW,i<t.aQ.length
 ld:t.aQ.length=t.aW.length+w.opn.length
 ov:w.cD=(t.aW.map λi=>eC b (bS t i).1).take 101
theorem Sv (b:Bk):jB b jg gi:=⟨λn=>rfl,VF,λd a=>(by cases a),rfl,rfl⟩
theorem Lg (l:List (Nr×Bool))(x:Nr×Bool)(n:ag):dj (l++[x]) n=match dj l n with|some a=>some a|none=>if x.1.name=n then some l.length else none:=by
 unfold dj;rw[W_];cases List.findIdx? (λx=>x.1.name==n) l with
 |some a=>rfl
 |none=>
  rw[YS,List.findIdx?_singleton];by_cases h:x.1.name=n
  ·simp[h]
  ·simp[h]
theorem uq {l:List (Nr×Bool)}{n:ag}(h:dj l n=some i):∃f:i<l.length,(l[i]).1.name=n:=by unfold dj at h;rw[Up] at h;obtain⟨d,a,-⟩:=h;exact⟨d,by simpa using a⟩
theorem Mb {l:List (Nr×Bool)}{n:ag}(h:dj l n=none):n∉l.map (·.1.name):=by unfold dj at h;rw[UO] at h;intro e;obtain⟨x,d,a⟩:=Uc.1 e;have:=h x d;rw[TQ] at this;exact this a
theorem s_ {t:Wk}(h:i<t.aQ.length):bS t i=t.aQ[i]:=by unfold bS;rw[TO,TH h];rfl
section
variable {s:St} {b:Bk} {fs:List aI} {t:Wk} {w:cE}
theorem jB.opn (h:jB b t w){K:List (cA×Nat)}(a:K.length=w.opn.length):jB b t {w with opn:=K}:=⟨h.fl,h.nd,h.lt,by rw[h.ld,<-a],h.ov⟩
theorem jB.push (h:jB b t w){x:Nr}(m:dj t.aQ x.name=none)(y:cA×Nat):jB b (eG t x) ⟨cL w.bF x.name 1,w.opn++[y],w.cD⟩:=by
 refine⟨λn=> ?_,?_,λi j=> ?_,?_,?_⟩
 ·show bG (cL w.bF x.name 1) n=match dj (t.aQ++[(x,false)]) n with|none=>0|some f=>if(bS (eG t x) f).2=true then 2 else 1
  rw[Ap,Lg,h.fl];cases o:dj t.aQ n with
  |some f=>
   obtain⟨q,u⟩:=uq o;have d:¬x.name=n:=λe=>by rw[e,o] at m;cases m
   rw[TJ d];have:bS (eG t x) f=bS t f:=by unfold bS eG;exact uj _ _ _ q
   simp only[this]
  |none=>
   by_cases d:x.name=n
   ·rw[TP d,TP d];have:bS (eG t x) t.aQ.length=(x,false):=by unfold bS eG;exact sw _ _ _
    simp only[this];rfl
   ·rw[TJ d,TJ d]
 ·show((t.aQ++[(x,false)]).map (·.1.name)).Nodup;rw[T',Vc];refine⟨h.nd,by simp,λa p c r=> ?_⟩;have:c=x.name:=by simpa using r
  rw[this];exact λe=>Mb m (e▸p)
 ·show i<(t.aQ++[(x,false)]).length;have:=h.lt i j;rw[TE];omega
 ·show(t.aQ++[(x,false)]).length=t.aW.length+(w.opn++[y]).length;rw[TE,TE,h.ld];simp only[T6];omega
 ·show w.cD=(t.aW.map λi=>eC b (bS (eG t x) i).1).take 101;rw[h.ov];congr 1;refine Xl λi j=> ?_;have:bS (eG t x) i=bS t i:=by unfold bS eG;exact uj _ _ _ (h.lt i j)
  rw[this]
theorem jB.done (h:jB b t w){K:List (cA×Nat)}{k:Nat}{x:cA}{l:Nat}(d:k<t.aQ.length)(m:w.opn=K++[(x,l)])(M:x=eC b (bS t k).1)(f:(bS t k).1.name=x.name):jB b (iC t k) (lX w)/\(lX w).opn=K:=by
 have H:w.opn.getLast?=some (x,l):=by rw[m,XR];rfl
 have o:w.opn.dropLast=K:=by rw[m,Vx]
 have r:(iC t k).aQ.map (·.1.name)=t.aQ.map (·.1.name):=by
  show(t.aQ.set k ((bS t k).1,true)).map (·.1.name)=_;rw[aaI,s_ d];refine XV (by simp) λa V S=> ?_;rw[aah];split
  ·rename_i e;subst e;simp
  ·rfl
 have R:∀a,(bS (iC t k) a).1=(bS t a).1:=λa=>by
  unfold bS iC;simp only;rw[TO,TO,ZX];by_cases e:k=a
  ·subst e;rw[TP rfl,TP d,TH d];show(bS t k).1=_;rw[s_ d];rfl
  ·rw[TJ e]
 have p:∀a,(bS (iC t k) a).2=if a=k then true else(bS t a).2:=λa=>by
  unfold bS iC;simp only;rw[TO,TO,ZX];by_cases e:k=a
  ·subst e;rw[TP rfl,TP d,TP rfl];rfl
  ·rw[TJ e,TJ (λq=>e q.symm)]
 have u:∀n,dj (iC t k).aQ n=dj t.aQ n:=λn=>by
  have:∀l:List (Nr×Bool),dj l n=(l.map (·.1.name)).findIdx? (·==n):=λl=>by unfold dj;rw[YV];rfl
  rw[this,this,r]
 have I:dj t.aQ x.name=some k:=by
  unfold dj;rw[Up];rw[s_ d] at f;refine⟨d,by simpa using f,λj O=> ?_⟩;have y:j<t.aQ.length:=by omega
  intro e;have D :(t.aQ[j]).1.name=x.name:=by simpa using e
  refine(W8.1 h.nd j k (by simpa using y) (by simpa using d) O) ?_;rw[Ut,Ut];exact D.trans f.symm
 unfold lX;rw[H];simp only;refine⟨⟨λn=> ?_,by rw[r];exact h.nd,λa J=> ?_,?_,?_⟩,o⟩
 ·show bG (cL w.bF x.name 2) n=_;rw[Ap,u,h.fl];by_cases i:x.name=n
  ·rw[TP i,<-i,I];simp only;rw[p,TP rfl];rfl
  ·rw[TJ i];cases G:dj t.aQ n with
   |none=>rfl
   |some E=>
    simp only;have Q :E≠k:=λe=>by obtain⟨q,v⟩:=uq G;subst e;rw[s_ d] at f;exact i (f.symm.trans v)
    rw[p,TJ Q]
 ·have z :a∈t.aW++[k]:=J;show a<(t.aQ.set k _).length;rw[UB];rcases T4.1 z with q|q
  ·exact h.lt a q
  ·rw[TL.1 q];exact d
 ·show(t.aQ.set k _).length=(t.aW++[k]).length+w.opn.dropLast.length;rw[UB,h.ld,o,m,TE,TE];simp only[T6];omega
 ·show(if w.cD.length<=100 then w.cD++[x] else w.cD)=((t.aW++[k]).map λa=>eC b (bS (iC t k) a).1).take 101;have N:((t.aW++[k]).map λa=>eC b (bS (iC t k) a).1)=(t.aW.map λa=>eC b (bS t a).1)++[x]:=by rw[T'];simp only[R];rw[M];rfl
  rw[N,h.ov];generalize t.aW.map (λa=>eC b (bS t a).1)=L;rw[Um];by_cases Z:L.length<=100
  ·rw[TP (by omega),Uh (by omega),Uh (by rw[TE];simp only[T6];omega)]
  ·rw[TJ (by omega),Xr (by omega)]
theorem Nd (b:Bk)(fs:List aI)(name:ag):(cT b fs name).1.name=name:=by
 unfold cT;split
 ·split<;>rfl
 ·rfl
theorem LH (h:jB b t w){n:ag}(d:bG w.bF n≠2)(f:bG w.bF n≠1):dj t.aQ n=none:=by
 have:=h.fl n;cases a:dj t.aQ n with
 |none=>rfl
 |some i=>
  rw[a] at this;simp only at this;split at this
  ·exact absurd this d
  ·exact absurd this f
theorem NG (h:jB b t w){n:ag}(f:bG w.bF n=2):∃a,dj t.aQ n=some a/\(bS t a).2=true:=by
 have:=h.fl n;cases d:dj t.aQ n with
 |none=>rw[d,f] at this;cases this
 |some a=>
  rw[d,f] at this;simp only at this;refine⟨a,rfl,?_⟩;cases i:(bS t a).2 with
  |true=>rfl|false=>rw[i] at this;cases this
theorem Ni (h:jB b t w){n:ag}(f:bG w.bF n=1):∃a,dj t.aQ n=some a/\(bS t a).2=false:=by
 have:=h.fl n;cases d:dj t.aQ n with
 |none=>rw[d,f] at this;cases this
 |some a=>
  rw[d,f] at this;simp only at this;refine⟨a,rfl,?_⟩;cases i:(bS t a).2 with
  |false=>rfl|true=>rw[i] at this;cases this
end
def tM (b:Bk)(s:St)(fs:List aI)(n:Nat)(K:List (cA×Nat))(a:Nat×cE)(q:Nat×Wk):Prop:=(q.1≠0->a.1=q.1)/\(q.1=0->∃m w',m<=n/\dL s fs (cB s fs s.bD) m (0,w')=some a/\jB b q.2 w' /\w'.opn=K)
def jO (t:Wk)(q:Wk):Prop:=t.aQ.length<=q.aQ.length/\∀a,a<t.aQ.length->(bS q a).1=(bS t a).1
theorem jO.refl (t:Wk):jO t t:=⟨TD _,λ_ _=>rfl⟩
theorem jO.trans {t u v:Wk}(h:jO t u)(k:jO u v):jO t v:=⟨TT h.1 k.1,λd a=>(k.2 d (T7 a h.1)).trans (h.2 d a)⟩
theorem jO.push (t:Wk)(x:Nr):jO t (eG t x):=⟨by unfold eG;simp,λi a=>by
 have:bS (eG t x) i=bS t i:=by unfold bS eG;exact uj _ _ _ a
 rw[this]⟩
theorem jO.done (t:Wk)(k:Nat):jO t (iC t k):=⟨by unfold iC;simp,λa d=>by
 unfold bS iC;simp only;rw[TO,TO,ZX];by_cases e:k=a
 ·subst e;rw[TP rfl,TP d];rfl
 ·rw[TJ e]⟩
theorem oV {rec:Wk->ag->Option (Nat×Wk)}(h:∀t n q,rec t n=some q->jO t q.2):∀(l:List ag) (t:Wk) (q:Nat×Wk),fJ rec l t=some q->jO t q.2
 |[],t,q,e=>by cases e;exact jO.refl _
 |n::l,t,q,e=>by
  unfold fJ at e;cases d:dj t.aQ n with
  |none=>
   rw[d] at e;simp only at e;cases a:rec t n with
   |none=>rw[a] at e;cases e
   |some f=>
    rw[a] at e;simp only at e;split at e
    ·cases e;exact h t n _ a
    ·exact(h t n _ a).trans (oV h l _ q e)
  |some f=>
   rw[d] at e;simp only at e;split at e
   ·exact oV h l _ q e
   ·cases e;exact jO.refl _
theorem pV (b:Bk)(fs:List aI):∀(f:Nat) (t:Wk) (n:ag) (q:Nat×Wk),dZ b fs f t n=some q->jO t q.2
 |0,_,_,_,e=>by cases e
 |f+1,t,n,q,e=>by
  rw[dZ] at e;split at e
  ·cases e;exact jO.refl _
  ·cases a:fJ (dZ b fs f) (cT b fs n).1.aF (eG t (cT b fs n).1) with
   |none=>rw[a] at e;cases e
   |some d=>rw[a] at e;cases e;exact((jO.push t _).trans (oV (pV b fs f) _ _ _ a)).trans (jO.done _ _)
section
variable {s:St} {b:Bk} {fs:List aI}
theorem DW {n:Nat}(h:dL s fs (cB s fs s.bD) n o=some y)(a:o.1≠0):y=o:=by
 cases n with
 |zero=>rw[dL,TP (.inl a)] at h;cases h;rfl
 |succ n=>rw[dL,TP (.inl a)] at h;cases h;rfl
theorem Dl {n:Nat}{w:cE}(h:dL s fs (cB s fs s.bD) n (0,w)=some o)(d:w.opn≠[]):∃m,n=m+1/\dL s fs (cB s fs s.bD) m (fA s fs (cB s fs s.bD) w)=some o:=by
 have a:¬((0,w):Nat×cE).1≠0/\¬((0,w):Nat×cE).2.opn=[]:=⟨λe=>e rfl,d⟩;cases n with
 |zero=>rw[dL,TJ (λe=>e.elim a.1 a.2)] at h;cases h
 |succ n=>rw[dL,TJ (λe=>e.elim a.1 a.2)] at h;exact⟨n,rfl,h⟩
theorem tM.mono {n m:Nat}{K:List (cA×Nat)}{q:Nat×Wk}(h:tM b s fs m K o q)(d:m<=n):tM b s fs n K o q:=⟨h.1,λe=>by obtain⟨k,w',f,a⟩:=h.2 e;exact⟨k,w',TT f d,a⟩⟩
theorem Mi (hs:dr s b)(n:Nat):
 (∀(t:Wk) (w:cE) (x:cA) (K:List (cA×Nat)) (a:Nat) (f:Nat×cE),jB b t w->w.opn=K++[(x,a)]->a<=x.aF.length->dL s fs (cB s fs s.bD) n (0,w)=some f->∃q,fJ (dZ b fs n) (x.aF.drop a) t=some q/\tM b s fs n (K++[(x,x.aF.length)]) f q)/\
 (∀(t:Wk) (w:cE) (name:ag) (f:Nat×cE),jB b t w->dj t.aQ name=none->dL s fs (cB s fs s.bD) n (dB s fs (cB s fs s.bD) w name)=some f->∃q,dZ b fs (n+1) t name=some q/\tM b s fs n w.opn f q):=by
 induction n using Nat.strongRecOn with
 |ind n M=>
  have hB:∀(t:Wk) (w:cE) (x:cA) (K:List (cA×Nat)) (a:Nat) (f:Nat×cE),jB b t w->w.opn=K++[(x,a)]->a<=x.aF.length->dL s fs (cB s fs s.bD) n (0,w)=some f->∃q,fJ (dZ b fs n) (x.aF.drop a) t=some q/\tM b s fs n (K++[(x,x.aF.length)]) f q:=λt w x K a f o y hi j=>by
   by_cases Z:a=x.aF.length
   ·subst Z;rw[Wm];exact⟨(0,t),rfl,λe=>absurd rfl e,λ_=>⟨n,w,TD _,j,o,y⟩⟩
   ·have ae:a<x.aF.length:=by omega
    have I:w.opn≠[]:=by rw[y];simp
    obtain⟨m,rfl,d⟩:=Dl j I;have O:w.opn.getLast?=some (x,a):=by rw[y,XR];rfl
    unfold fA at d;rw[O] at d;simp only at d;rw[TJ Z,y,Vx] at d;have hy:x.aF.getD a []=x.aF[a]:=by rw[TO,TH ae];rfl
    rw[hy] at d;rw[T2 ae];have p:jB b t {w with opn:=K++[(x,a+1)]}:=o.opn (by rw[y,TE,TE];rfl);unfold fJ;unfold dB at d;by_cases z:bG w.bF x.aF[a]=2
    ·rw[TP z] at d;obtain⟨af,i,H⟩:=NG o z;rw[i];simp only;rw[TP H];obtain⟨q,v,u⟩:=(M m (by omega)).1 t _ x K (a+1) f p rfl (by omega) d;exact⟨q,tX (yr b fs m) _ _ _ v,u.mono (by omega)⟩
    ·rw[TJ z] at d;by_cases R:bG w.bF x.aF[a]=1
     ·rw[TP R] at d;obtain⟨af,i,H⟩:=Ni o R;rw[i];simp only;rw[TJ (by rw[H];decide)];have:=DW d (Xp _);exact⟨(7,t),rfl,λ_=>by rw[this],λe=>(by cases e)⟩
     ·have i:=LH o z R;rw[i];simp only;have ai :dL s fs (cB s fs s.bD) m (dB s fs (cB s fs s.bD) {w with opn:=K++[(x,a+1)]} x.aF[a])=some f:=by unfold dB;rw[TJ z];exact d
      obtain⟨N,v,u,G⟩:=(M m (by omega)).2 t _ _ f p i ai;rw[v];simp only;by_cases D:N.1=0
      ·rw[TJ (λe=>e D)];obtain⟨Q,w',h1,E,J,r⟩:=G D;obtain⟨q,p1,p2⟩:=(M Q (by omega)).1 N.2 w' x K (a+1) f J r (by omega) E;exact⟨q,tX (LS b fs (by omega)) _ _ _ p1,p2.mono (by omega)⟩
      ·rw[TP D];exact⟨N,rfl,u,λe=>absurd e D⟩
  refine⟨hB,λt w name f o i j=> ?_⟩;have ac:=o.fl name;rw[i] at ac;simp only at ac;unfold dB at j;rw[TJ (by omega),TJ (by omega),Oy hs] at j;rw[dZ];by_cases V:(cT b fs name).2=false
  ·rw[TP V] at j⊢;have:=DW j (Xp _);exact⟨_,rfl,λ_=>by rw[this],λe=>(by cases e)⟩
  ·rw[TJ V] at j⊢;have aa:=Nd b fs name;have aj:dj t.aQ (cT b fs name).1.name=none:=by rw[aa];exact i
   have p:=o.push aj (eC b (cT b fs name).1,0);rw[aa] at p;obtain⟨q,v,u,G⟩:=hB _ _ (eC b (cT b fs name).1) w.opn 0 f p rfl (TS _) j;have ab :fJ (dZ b fs n) (cT b fs name).1.aF (eG t (cT b fs name).1)=some q:=v;rw[ab];refine⟨_,rfl,u,λe=> ?_⟩;obtain⟨m,w',h1,E,J,r⟩:=G e;have I:w'.opn≠[]:=by rw[r];simp
   obtain⟨Q,rfl,d⟩:=Dl E I;have O:w'.opn.getLast?=some (eC b (cT b fs name).1,(eC b (cT b fs name).1).aF.length):=by rw[r,XR];rfl
   unfold fA at d;rw[O] at d;simp only at d;rw[TP True.intro] at d;have hk:=oV (pV b fs n) _ _ _ ab;have S:t.aQ.length<(eG t (cT b fs name).1).aQ.length:=by unfold eG;simp
   have ah:t.aQ.length<q.2.aQ.length:=T7 S hk.1;have ad:(bS q.2 t.aQ.length).1=(cT b fs name).1:=by rw[hk.2 _ S];unfold bS eG;rw[sw]
   obtain⟨d1,d2⟩:=J.done ah r (by rw[ad]) (by rw[ad];rfl);exact⟨Q,_,by omega,d,d1,d2⟩
theorem OG (y:dr s b){g:ag}(h:gM s fs (cB s fs s.bD) (dB s fs (cB s fs s.bD) gi g) o):∃f q,dZ b fs f jg g=some q/\q.1=o.1/\(o.1=0->jB b q.2 o.2/\o.2.opn=[]):=by
 obtain⟨n,z⟩:=h;obtain⟨q,v,u,p⟩:=(Mi y n).2 jg gi g o (Sv b) rfl z;refine⟨n+1,q,v,?_,λe=> ?_⟩
 ·by_cases d:q.1=0
  ·obtain⟨m,w',x,a,r,j⟩:=p d;have:o=(0,w'):=by
    have i :w'.opn=[]:=j;cases m with
    |zero=>rw[dL,TP (.inr i)] at a;cases a;rfl
    |succ m=>rw[dL,TP (.inr i)] at a;cases a;rfl
   rw[this,d]
  ·exact(u d).symm
 ·by_cases d:q.1=0
  ·obtain⟨m,w',x,a,r,j⟩:=p d;have:o=(0,w'):=by
    have i :w'.opn=[]:=j;cases m with
    |zero=>rw[dL,TP (.inr i)] at a;cases a;rfl
    |succ m=>rw[dL,TP (.inr i)] at a;cases a;rfl
   rw[this];exact⟨r,j⟩
  ·exact absurd ((u d).symm.trans e) d
end
def pB (N:ag->Nv)(i:UInt8->Option ag):List (ag×Nat)->List ag->(Nat×Nat)⊕List ag->Prop
 |[],f,d=>d= .inr f
 |c::j,f,d=>∃a:Er,bM N i [] 0 [] c.1 a/\(if a.er≠0 then d= .inl (a.er,c.2) else if Mk.cut a.bE=[] then pB N i j f d else pB N i j (f++[a.bE]) d)
def qm (N:ag->Nv):List cA->List (List ag)->(Nat×Nat)⊕List (List ag)->Prop
 |[],d,a=>a= .inr d
 |x::f,d,a=>∃S,pB N x.sg x.aH [] S/\(match S with
  | .inl e=>a= .inl e
  | .inr l=>qm N f (d++[l]) a)
def sd (x:cA):Sg:=⟨true,x.name,x.aF.headD [],[32].intercalate x.aF,x.stem⟩
theorem P4 (x:cA):jf (sd x)=x.sg:=by funext c;unfold jf sd cA.sg mP;rw[TJ (show ¬true=false from Bool.noConfusion)];rfl
def Su (k:Nat)(i:List ag)(f:List ag):(Nat×Nat)⊕(Nat×List ag)->(Nat×Nat)⊕List ag->Prop
 | .inl e,.inl j=>e=j
 | .inr (d,l),.inr m=>∃a,m=f++a/\d =k+a.length/\(d <=500->l=i++a)|_,_=>False
variable {u:UInt8->Option ag}
theorem ze {N:ag->Nv} :∀(x:List (ag×Nat)) (k:Nat) (n j:List ag) (d:(Nat×Nat)⊕(Nat×List ag)),jw N u x k n d->∃S,pB N u x j S/\Su k n j d S
 |[],k,n,j,d,h=>by have E :d= .inr (k,n):=h;subst E;exact⟨.inr j,rfl,[],by simp,rfl,λ_=>by simp⟩
 |c::y,k,n,j,d,h=>by
  obtain⟨a,r,f⟩:=h;by_cases o:a.er=0
  ·rw[TJ (λe=>e o)] at f;by_cases p:Mk.cut a.bE=[]
   ·rw[TP p] at f;obtain⟨S,v,i⟩:=ze y k n j d f;exact⟨S,⟨a,r,by rw[TJ (λe=>e o),TP p];exact v⟩,i⟩
   ·rw[TJ p] at f;obtain⟨S,v,i⟩:=ze y (k+1) _ (j++[a.bE]) d f;refine⟨S,⟨a,r,by rw[TJ (λe=>e o),TJ p];exact v⟩,?_⟩
    match d,S,i with
    | .inl e,.inl J,i=>exact i
    | .inr (M,l),.inr m,i=>obtain⟨D,H,I,z⟩:=i;refine⟨a.bE::D,by rw[H];simp,by rw[I,TK];omega,λG=> ?_⟩;rw[z G,TP (by omega)];simp
  ·rw[TP o] at f;subst f;exact⟨.inl (a.er,c.2),⟨a,r,by rw[TP o]⟩,rfl⟩
def qk (x:cA)(a:List ag):bP:=⟨x.name,x.ph,x.aF,x.stem,a⟩
def iL (a:List (List ag)):Nat:=(a.map (·.length)).sum
def Sl (d:List cA)(k:Nat)(j:List bP)(i:List (List ag)):(Nat×Nat)⊕(Nat×List bP)->(Nat×Nat)⊕List (List ag)->Prop
 | .inl e,.inl o=>e=o
 | .inr (f,n),.inr m=>∃a,m=i++a/\a.length=d.length/\f =k+iL a/\(f <=500->n=j++List.zipWith qk d a)|_,_=>False
theorem EA {N:ag->Nv}:∀(p:List cA) (k:Nat) (o:List bP) (d:List (List ag)) (a:(Nat×Nat)⊕(Nat×List bP)),iV N p k o a->∃S,qm N p d S/\Sl p k o d a S
 |[],k,o,d,a,h=>by have D :a= .inr (k,o):=h;subst D;exact⟨.inr d,rfl,[],by simp,rfl,rfl,λ_=>by simp⟩
 |x::Q,k,o,d,a,h=>by
  obtain⟨G,Z,f⟩:=h;obtain⟨S,i,n⟩:=ze x.aH k [] [] G Z
  match G,S,n,f,i with
  | .inl e,.inl r,n,f,i=>have M:e=r :=n;subst M;have E :a= .inl e:=f;subst E;exact⟨.inl e,⟨_,i,rfl⟩,rfl⟩
  | .inr (R,l),.inr u,n,f,i=>
   obtain⟨bA,v,n2,z⟩:=n;rw[UI] at v;cases v;obtain⟨T,H,j⟩:=EA Q R _ (d++[u]) a f;refine⟨T,⟨_,i,H⟩,?_⟩
   match a,T,j with
   | .inl e,.inl r,j=>exact j
   | .inr (k',ss),.inr m,j=>obtain⟨I,J,V,y,O⟩:=j;refine⟨u::I,by rw[J];simp,by rw[TK,V,TK],by rw[y,n2];unfold iL;rw[Ug,XG];omega,λh5=> ?_⟩;rw[O h5,z (by omega)];simp[qk]
theorem MS {s:St}{b:Bk}(h:dr s b):s.first=((b.aD.find? λa=> !a.b_&& !a.ph).map (·.tg.headD [])).getD []:=by
 rw[h.first];unfold qx eI;have:∀rs:List Ru,(∀a∈rs,a.b_=eJ a.tg/\eJ a.tg=gJ a.tg)->((((rs.filter λa=> !a.ph).map (·.tg)).find? λg=> !gJ g).getD []).headD []=((rs.find? λa=> !a.b_&& !a.ph).map (·.tg.headD [])).getD []:=λrs=>by
  induction rs with
  |nil=>intro _;rfl
  |cons a rs n=>
   intro d;obtain⟨i,j⟩:=d a (TY ..);have f :=n λq m=>d q (TX _ m);rw[Wo,UT];cases o:a.ph with
   |true=>simp only[aac,ZG,Uj,Vk];exact f
   |false=>
    simp only[XS,Vn,X0,Ug,UT];rw[i,j];cases gJ a.tg with
    |true=>exact f
    |false=>rfl
 exact this b.aD λa d=>⟨(h.ru a d).1,(h.ru a d).2.1⟩
theorem pU (k n:ag)(v:Nat):∀fl:dM,bG (cL fl k v) n=if k=n then v else bG fl n
 |[]=>by
  unfold bG cL;by_cases h:k=n
  ·rw[TP h,XA (by simpa using h)];rfl
  ·rw[TJ h,V8 (by simpa using h)]
 |x::a=>by
  have j:=pU k n v a;rw[cL];by_cases d:x.1=k
  ·rw[TP (UR.2 d)];unfold bG;by_cases h:k=n
   ·rw[TP h,XA (by simpa using h)];rfl
   ·rw[TJ h,V8 (by simpa using h),V8 (by rw[d];simpa using h)]
  ·rw[TJ (by simpa using d)];by_cases h:x.1=n
   ·have f:k≠n:=λq=>d (h.trans q.symm);rw[TJ f];unfold bG;rw[XA (by simpa using h),XA (by simpa using h)]
   ·have i:bG (x::cL a k v) n=bG (cL a k v) n:=by
     unfold bG;rw[V8 (by simpa using h)]
    have m:bG (x::a) n=bG a n:=by unfold bG;rw[V8 (by simpa using h)]
    rw[i,m];exact j
def gD (two:ag->Prop)(f:Option ag):List (cA×Nat)->Prop
 |[]=>True
 |x::d=>(∀a,a<x.2->two (x.1.aF.getD a [])\/(∃y∈d,y.1.name=x.1.aF.getD a [])\/f=some (x.1.aF.getD a []))/\gD two f d
theorem gD.IL {two:ag->Prop}{x:cA×Nat}:∀d:List (cA×Nat),gD two none (d++[x])->gD two (some (x.1.aF.getD x.2 [])) (d++[(x.1,x.2+1)])
 |[],h=>by
  refine⟨λa f=> ?_,trivial⟩;by_cases e:a=x.2
  ·rw[e];exact .inr (.inr rfl)
  ·rcases h.1 a (by simp only at f;omega) with q|⟨y,q,_⟩|q
   ·exact .inl q
   ·cases q
   ·cases q
 |z::i,h=>by
  refine⟨λa f=> ?_,gD.IL i h.2⟩;rcases h.1 a f with q|⟨y,q,e⟩|q
  ·exact .inl q
  ·refine .inr (.inl ?_);rcases T4.1 q with q|q
   ·exact⟨y,Ul _ q,e⟩
   ·rw[TL] at q;rw[q] at e;exact⟨(x.1,x.2+1),Un _ (TL.2 rfl),e⟩
  ·cases q
variable {G:ag->Prop}
theorem gD.push {two:ag->Prop}{z:cA×Nat}(f:∀n,two n->G n)(j:z.2=0):∀d:List (cA×Nat),gD two (some z.1.name) d->gD G none (d++[z])
 |[],_=>⟨λi a=>(by rw[j] at a;cases a),trivial⟩
 |x::m,h=>by
  refine⟨λi a=> ?_,gD.push f j m h.2⟩;rcases h.1 i a with q|⟨y,q,e⟩|q
  ·exact .inl (f _ q)
  ·exact .inr (.inl ⟨y,Ul _ q,e⟩)
  ·refine .inr (.inl ⟨z,Un _ (TL.2 rfl),?_⟩);exact UX q
theorem gD.seen {two:ag->Prop}(a:two j):∀d:List (cA×Nat),gD two (some j) d->gD two none d
 |[],_=>trivial
 |x::f,h=>by
  refine⟨λi m=> ?_,gD.seen a f h.2⟩;rcases h.1 i m with q|q|q
  ·exact .inl q
  ·exact .inr (.inl q)
  ·exact .inl (UX q▸a)
theorem gD.kQ {two:ag->Prop}{x:cA×Nat}(a:∀n,two n->G n)(f:G x.1.name):∀d:List (cA×Nat),gD two none (d++[x])->gD G none d
 |[],_=>trivial
 |z::i,h=>by
  refine⟨λm j=> ?_,gD.kQ a f i h.2⟩;rcases h.1 m j with q|⟨y,q,e⟩|q
  ·exact .inl (a _ q)
  ·rcases T4.1 q with q|q
   ·exact .inr (.inl ⟨y,q,e⟩)
   ·rw[TL] at q;rw[q] at e;exact .inl (e▸f)
  ·cases q
theorem gD.du {two:ag->Prop}{x:cA×Nat}:∀d:List (cA×Nat),gD two none (d++[x])->∀a,a<x.2->two (x.1.aF.getD a [])
 |[],h,a,f=>by
  rcases h.1 a f with q|⟨y,q,_⟩|q
  ·exact q
  ·cases q
  ·cases q
 |_::i,h,a,f=>gD.du i h.2 a f
structure mU (s:St)(fs:List aI)(us:List (Nat×List ag))(pend:Option ag)(t:cE):Prop where
 tH:∀x∈t.opn,x.1=(ea s fs us x.1.name).1/\bG t.bF x.1.name=1
 x9:(t.opn.map (·.1.name)).Nodup
 lk:gD (λn=>bG t.bF n=2) pend t.opn
 qI:∀x∈t.cD,x=(ea s fs us x.name).1/\bG t.bF x.name=2/\∀n∈x.aF,bG t.bF n=2
 tU:(t.cD.map (·.name)).Nodup
 all:t.cD.length<=100->∀n,bG t.bF n=2->∃x∈t.cD,x.name=n
section
variable {s:St} {fs:List aI} {us:List (Nat×List ag)} {t:cE}
theorem zA {name:ag}(h:mU s fs us (some name) t)(f:(dB s fs us t name).1=0):mU s fs us none (dB s fs us t name).2:=by
 unfold dB at f⊢;by_cases m:bG t.bF name=2
 ·rw[TP m];exact⟨h.tH,h.x9,gD.seen (two:=λn=>bG t.bF n=2) m _ h.lk,h.qI,h.tU,h.all⟩
 rw[TJ m] at f⊢;by_cases o:bG t.bF name=1
 ·rw[TP o] at f;cases f
 rw[TJ o] at f⊢;by_cases z:(ea s fs us name).2=false
 ·rw[TP z] at f;cases f
 rw[TJ z] at f⊢;have up:∀n v,bG t.bF n=v->n≠name->bG (cL t.bF name 1) n=v:=λn v e d=>by rw[pU,TJ (λq=>d q.symm)];exact e
 have r:∀n,bG t.bF n=2->bG (cL t.bF name 1) n=2:=λn e=>up n 2 e (λq=>m (q▸e));refine⟨λx p=> ?_,?_,?_,λx p=> ?_,h.tU,λy n d=> ?_⟩
 ·rcases T4.1 p with q|q
  ·obtain⟨j,i⟩:=h.tH x q;exact⟨j,up _ 1 i (λe=>o (e▸i))⟩
  ·rw[TL] at q;rw[q];simp only[uc];exact⟨trivial,by rw[pU,TP rfl]⟩
 ·simp only[T',Ug,VL,uc];rw[Vc];refine⟨h.x9,by simp,λa E b u e=> ?_⟩;rw[TL] at u;obtain⟨x,j,i⟩:=Uc.1 E;have:=(h.tH x j).2;rw[i,e,u] at this;exact o this
 ·refine gD.push (two:=λn=>bG t.bF n=2) r rfl _ ?_;rw[uc];exact h.lk
 ·obtain⟨j,i,D⟩:=h.qI x p;exact⟨j,r _ i,λn d=>r n (D n d)⟩
 ·simp only at y d;rw[pU] at d;split at d
  ·cases d
  ·exact h.all y n d
theorem Hb (h:mU s fs us none t){x:cA×Nat}(D:t.opn.getLast?=some x)(j:(fA s fs us t).1=0):mU s fs us none (fA s fs us t).2:=by
 obtain⟨d,p⟩:=Wz.1 D;have Q:t.opn.dropLast=d:=by rw[p,Vx]
 have E:=h.tH x (by rw[p];exact Un _ (TL.2 rfl));have v:=h.lk;have r:=h.x9;rw[p] at v r;rw[T',Vc] at r;unfold fA at j⊢;rw[D] at j⊢;simp only at j⊢;by_cases J:x.2=x.1.aF.length
 ·rw[TP J] at j⊢;unfold lX;rw[D];simp only[Q];have z:∀n,bG t.bF n=2->bG (cL t.bF x.1.name 2) n=2:=λn e=>by
   rw[pU];split
   ·rfl
   ·exact e
  have O:bG (cL t.bF x.1.name 2) x.1.name=2:=by rw[pU,TP rfl]
  have V:∀n∈x.1.aF,bG (cL t.bF x.1.name 2) n=2:=λn i=>by obtain⟨I,R⟩:=Ze i;have aa:I<x.1.aF.length:=(TZ.1 R).1;have e:=gD.du (two:=λn=>bG t.bF n=2) d v I (by omega);rw[TO,R] at e;exact z n e
  have M:∀y∈t.cD,y=(ea s fs us y.name).1/\bG (cL t.bF x.1.name 2) y.name=2/\∀n∈y.aF,bG (cL t.bF x.1.name 2) n=2:=λy f=>by obtain⟨m,o,S⟩:=h.qI y f;exact⟨m,z _ o,λn i=>z n (S n i)⟩
  refine⟨λy f=> ?_,r.1,gD.kQ (two:=λn=>bG t.bF n=2) z O d v,λy f=> ?_,?_,λG n i=> ?_⟩
  ·obtain⟨m,o⟩:=h.tH y (by rw[p];exact Ul _ f);refine⟨m,?_⟩;have Z:x.1.name≠y.1.name:=λe=>r.2.2 y.1.name (Uc.2 ⟨y,f,rfl⟩) x.1.name (TL.2 rfl) e.symm;simp only;rw[pU,TJ Z];exact o
  ·simp only at f;split at f
   ·rcases T4.1 f with q|q
    ·exact M y q
    ·rw[TL] at q;rw[q];exact⟨E.1,O,V⟩
   ·exact M y f
  ·simp only;split
   ·rw[T',Vc];refine⟨h.tU,by simp,λa ha b H e=> ?_⟩;simp only[Ug,VL,TL] at H;obtain⟨y,m,o⟩:=Uc.1 ha;have N:=(h.qI y m).2.1;rw[o,e,H,E.2] at N;cases N
   ·exact h.tU
  ·simp only at G i⊢;split at G
   ·rename_i u;rw[TP u];rw[pU] at i;split at i
    ·rename_i e;exact⟨x.1,Un _ (TL.2 rfl),e⟩
    ·obtain⟨y,m,o⟩:=h.all u n i;exact⟨y,Ul _ m,o⟩
   ·rename_i u;exact absurd G u
 ·rw[TJ J] at j⊢;rw[Q] at j⊢;refine zA ⟨λy f=> ?_,?_,gD.IL (two:=λn=>bG t.bF n=2) d v,h.qI,h.tU,h.all⟩ j
  ·rcases T4.1 f with q|q
   ·exact h.tH y (by rw[p];exact Ul _ q)
   ·rw[TL] at q;rw[q];exact E
  ·have:=h.x9;rw[p] at this;simp only[T',Ug,VL] at this⊢;exact this
end
theorem tY:∀l d:List ag,d.Nodup->(bJ l d).Nodup
 |[],_,h=>h
 |x::f,d,h=>by
  unfold bJ;split
  ·exact tY f d h
  ·rename_i m;refine tY f _ ?_;rw[Vc];refine⟨h,by simp,λa j b i e=> ?_⟩;rw[TL] at i;exact m (i▸e▸j)
structure mT (s:St):Prop where
 nd:∀r∈s.aD,r.nd.Nodup
theorem mT.add {s:St}(h:mT s)(a d:List ag):mT (bp s a d).2:=by
 have j:∀i∈s.aD++[⟨a,bJ d [],[]⟩],i.nd.Nodup:=λi m=>by
  rcases T4.1 m with e|e
  ·exact h.nd i e
  ·rw[TL] at e;rw[e];exact tY d [] VF
 unfold bp;split
 ·exact⟨h.nd⟩
 ·split
  ·exact⟨j⟩
  ·have key:∀f:ag,mT (a.foldl (dH s.aD.length) {s with aD:=s.aD++[⟨a,bJ d [],[]⟩],first:=f}):=λf=>by
    have e:=(oW s.aD.length a {s with aD:=s.aD++[⟨a,bJ d [],[]⟩],first:=f}).2.1;refine⟨?_⟩;rw[e];exact j
   unfold lu;simp only;split
   ·exact key _
   ·exact key s.first
theorem O2:pf mT where
 assign s l h:=by unfold gW;split<;>exact⟨h.nd⟩
 sF s op l h:=by
  unfold fT;split
  ·exact h
  ·split
   ·exact h
   ·rename_i j _ d f;split
    ·exact h
    ·refine⟨λx i=> ?_⟩;rcases VK i with e|e
     ·exact h.nd x e
     ·rw[e];exact h.nd d (Vw f)
 jz s l h:=by
  unfold fW;split
  ·exact h
  ·split
   ·exact h
   ·split
    ·exact h
    ·split
     ·exact h
     ·exact mT.add (s:={s with n:=s.n+1}) ⟨h.nd⟩ _ _
 rR s a b h:=⟨h.nd⟩
theorem zs (fs:List aI)(a:ag):mT (cI fs a).2.2:=yw O2 ⟨λ_ d=>(by cases d)⟩ a
section
variable {s:St} {fs:List aI} {us:List (Nat×List ag)}
theorem BQ (h:mT s)(xs:List Nat):(fu s xs).Nodup:=by
 unfold fu;split
 ·by_cases a:xs.headD 0<s.aD.length
  ·exact h.nd _ (pY a)
  ·have e:bK s (xs.headD 0)=⟨[],[],[]⟩:=by
    unfold bK;rw[TO,WA (by omega)];rfl
   rw[e];exact VF
 ·exact tY _ _ VF
theorem Ki (h:mT s)(name:ag):(ea s fs us name).1.aF.Nodup:=by
 unfold ea;split
 ·split
  ·exact tY _ _ VF
  ·exact BQ h _
 ·exact BQ h _
theorem IU (g:ag):mU s fs us (some g) gi:=⟨λ_ a=>(by cases a),VF,trivial,λ_ a=>(by cases a),VF,λ_ n d=>(by cases d)⟩
theorem EX:∀(n:Nat) (a d:Nat×cE),dL s fs us n a=some d->(a.1=0->mU s fs us none a.2)->d.1=0->mU s fs us none d.2/\d.2.opn=[]
 |0,a,d,h,i,f=>by
  rw[dL] at h;split at h
  ·rename_i q;cases h;rcases q with q|q
   ·exact absurd f q
   ·exact⟨i f,q⟩
  ·cases h
 |n+1,a,d,h,i,f=>by
  rw[dL] at h;split at h
  ·rename_i q;cases h;rcases q with q|q
   ·exact absurd f q
   ·exact⟨i f,q⟩
  ·rename_i q;have o:a.1=0:=XX λe=>q (.inl e);have m:a.2.opn≠[]:=λe=>q (.inr e);cases j:a.2.opn.getLast? with
   |none=>rw[W7] at j;exact absurd j m
   |some x=>exact EX n _ d h (λe=>Hb (i o) j e) f
theorem uC {g:ag}(h:gM s fs us (dB s fs us gi g) o)(a:o.1=0):mU s fs us none o.2/\o.2.opn=[]:=by obtain⟨n,d⟩:=h;exact EX n _ o d (λe=>zA (IU g) e) a
theorem sr (m:mT s){t:cE}(h:mU s fs us none t)(j:t.cD.length<=100){x:cA}(o:x∈t.cD):x.aF.length<=100/\∀n∈x.aF,∃y∈t.cD,y.name=n:=by
 obtain⟨p,_,r⟩:=h.qI x o;have d:∀n∈x.aF,∃y∈t.cD,y.name=n:=λn d=>h.all j n (r n d);refine⟨?_,d⟩;have f:x.aF.Nodup:=by rw[p];exact Ki m _
 have:=uQ x.aF (t.cD.map (·.name)) f (λn i=>by obtain⟨y,a,b⟩:=d n i;exact Uc.2 ⟨y,a,b⟩);rw[TR] at this;omega
end
theorem Hq:∀(i:List Vq) (d a:Nat) (f:d<i.length),a<5->(i.flatMap lj)[d*5+a]?=(lj i[d])[a]?
 |[],_,_,f,_=>by cases f
 |q::j,0,a,_,m=>by rw[Ud,YP,Ur,UZ (by show a<5;exact m)];rfl
 |q::j,d+1,a,f,m=>by
  have e:(d+1)*5+a-5=d*5+a:=by omega
  rw[Ud,Uq (by show 5<=(d+1)*5+a;omega)];show(j.flatMap lj)[(d+1)*5+a-5]?=_;rw[e];exact Hq j d a (by simpa using f) m
theorem sG {W:ax}{b:Nat}{a:Obj}(h:W.heap[b]?=some a):b<W.heap.size:=by
 rcases Yj b W.heap.size with q|q
 ·exact q
 ·rw[Yn q] at h;cases h
section
variable {W:ax} {q:Vq} {L g cap:Nat} {qv:List Vq}
theorem kA.Th (h:kA W q){b:Nat}(a:AL W b i (lj q)):Bc W W.heap.size b i q.nd:=by
 obtain⟨H,G⟩:=h;unfold lj at a;rcases H with⟨j,d⟩|⟨n,v,u,j,E,p,M,J,y⟩<;>rcases G with⟨f,m⟩|⟨z,r,x,f,D,I,N,o⟩
 ·rw[j,f] at a;exact⟨none,none,0,0,0,0,0,0,by rw[d,m];exact a,by rw[d];exact TD _,λq=>(by rw[d] at q;cases q),λq=>by rw[m] at q;cases q⟩
 ·rw[j,f] at a;exact⟨none,_,0,x,0,0,z,r,by rw[d];exact a,by rw[d];exact TD _,λq=>(by rw[d] at q;cases q),λ_=>⟨rfl,sG o,D⟩⟩
 ·rw[j,f] at a;exact⟨_,none,u,0,n,v,0,0,by rw[m];exact a,E,λ_=>⟨rfl,sG y,p⟩,λq=>by rw[m] at q;cases q⟩
 ·rw[j,f] at a;exact⟨_,_,u,x,n,v,z,r,a,E,λ_=>⟨rfl,sG y,p⟩,λ_=>⟨rfl,sG o,D⟩⟩
theorem Nf (h:W.ownsRow L 197 5 (.slice (some ⟨g,0,none⟩) qv.length cap) qv.length (qv.flatMap lj))(n:∀q∈qv,kA W q)(a:Nat)(m:a<(qv.map Vq.nd).length):Bc W W.heap.size g (0+a*5) (qv.map Vq.nd)[a]:=by
 have i :a<qv.length:=by rwa [TR] at m
 rw[Ut];refine kA.Th (n _ (TV i)) (λd u f=> ?_);have j:d<5:=by
  rcases Yj d 5 with q|q
  ·exact q
  ·rw[WA (by show 5<=d;exact q)] at f;cases f
 rw[Ur];exact gx h (a*5+d) u ((Hq qv a d i j).trans f)
end
theorem GU (P:Nat):∀xs:List ag,(∀x∈xs,x.length<=P)->Lib.lens xs<=xs.length*P
 |[],_=>by simp[Lib.lens]
 |x::a,h=>by
  have f:=GU P a (λy d=>h y (TX _ d));have i:=h x (TY ..);have e:Lib.lens (x::a)=x.length+Lib.lens a:=by simp[Lib.lens]
  rw[e,TK,VO];omega
theorem KA (k:ag)(fl:dM)(h:k∉jx fl):bG fl k=0:=by unfold bG;rw[Vm.2 (λx a q=>h (Uc.2 ⟨x,a,UR.1 q⟩))];rfl
section
variable {s:St} {fs:List aI} {us:List (Nat×List ag)} {U:List ag} {C k:Nat}
theorem tZ (f:cE->Prop)(o:∀t x,f t->t.opn.getLast?=some x->(fA s fs us t).1=0->f (fA s fs us t).2):∀(n:Nat) (a d:Nat×cE),dL s fs us n a=some d->(a.1=0->f a.2)->d.1=0->f d.2
 |0,a,d,h,i,j=>by
  rw[dL] at h;split at h
  ·cases h;exact i j
  ·cases h
 |n+1,a,d,h,i,j=>by
  rw[dL] at h;split at h
  ·cases h;exact i j
  ·rename_i q;have r:a.1=0:=XX λe=>q (.inl e);have p:a.2.opn≠[]:=λe=>q (.inr e);cases m:a.2.opn.getLast? with
   |none=>rw[W7] at m;exact absurd m p
   |some x=>exact tZ f o n _ d h (λe=>o _ x (i r) m e) j
theorem OT (d:tN s fs us U C){g:ag}(i:g∈U)(h:gM s fs us (dB s fs us gi g) o)(f:o.1=0):me U C o.2:=by obtain⟨n,j⟩:=h;exact tZ (me U C) (λt x a b c=>((Gv d).step t x a b c).1) n _ o j (λe=>(yK d Im g i e).1) f
theorem D5 {t:cE}(d:me U C t)(h:mU s fs us none t){x:cA}(f:x∈t.cD):x.name∈U:=by obtain⟨_,a,_⟩:=h.qI x f;refine d.key _ (XX λe=> ?_);rw[KA _ _ e] at a;cases a
theorem F5 (P:List (ag×Nat)->Prop)(d:P []):∀xs:List Nat,(∀a∈xs,P (bK s a).cs)->P (gA s xs)
 |[],_=>d
 |a::f,h=>by
  unfold gA;split
  ·exact h a (TY ..)
  ·exact F5 P d f (λi j=>h i (TX _ j))
theorem KJ (P:List (ag×Nat)->Prop)(m:P [])(d:∀a,a<s.aD.length->P (bK s a).cs)(i:∀name,∀a∈s.of name,a<s.aD.length)(j:∀x∈us,x.1<s.aD.length)(name:ag):
 P (ea s fs us name).1.aH/\(ea s fs us name).1.stem.length<=name.length:=by
 have f:P (gA s (s.of name)):=F5 P m _ (λa p=>d a (i name a p));unfold ea;split
 ·split
  ·rename_i a u e;obtain⟨⟨x,n,r⟩,o⟩:=wM e;exact⟨d a (r▸j x n),o⟩
  ·exact⟨f,TS _⟩
 ·exact⟨f,TS _⟩
theorem NV (v:Ok s k)(R:k<=2000000000)(O:mT s)(H:∀name,∀z∈s.of name,z<s.aD.length)(I:∀x∈us,x.1<s.aD.length)(P:Nat)(Z:P<=8388608)(m:∀y∈U,y.length<=P){t:cE}(o:me U C t)(h:mU s fs us none t)(N:t.cD.length<=100){x:cA}(i:x∈t.cD):A0 x:=by
 obtain⟨f,Q⟩:=sr O h N i;have V:=m _ (D5 o h i);have r:∀n∈x.aF,n.length<=P:=λn d=>by obtain⟨y,a,b⟩:=Q n d;rw[<-b];exact m _ (D5 o h a)
 obtain⟨p,G⟩:=KJ (fs:=fs) (us:=us) (λj=>j.length<=k/\∀c∈j,c.1.length<=1073741824) ⟨TS _,λc J=>(by cases J)⟩ (λz u=>⟨v.cl _ (pY u),(v.rs _ (pY u)).cw⟩) H I x.name;rw[<-(h.qI x i).1] at p G;have S:(Lib.join x.aF [32]).length<=100+100*P:=by
  have E:=GU P x.aF r;have M:=U4 P f;cases d:x.aF with
  |nil=>rw[Lib.join_nil];exact TS _
  |cons y D=>rw[d] at f E M;rw[Lib.join_length];simp only[TK,T1] at f⊢;omega
 refine⟨by omega,p.2,by omega,by omega,?_,by omega,by omega⟩;cases d:x.aF with
 |nil=>exact TS _
 |cons y D=>have:=r y (by rw[d];exact TY ..);simp only[XC];omega
end
theorem Fh (P:Nat)(xs:List ag)(h:∀x∈xs,x.length<=P):(cY xs).length<=xs.length*(P+2):=by
 induction xs with
 |nil=>simp[cY]
 |cons x f a=>have j :=a (λy d=>h y (TX _ d));have i:=h x (TY ..);unfold cY at*;rw[Ud,TE,TK,VO];simp[iU x.length 2 (Nat.le_refl 2)] at*;omega
theorem wy {N:ag->Nv} :∀(x:List (ag×Nat)) (k:Nat) (a:List ag) (i :Nat) (out:List ag),jw N u x k a (.inr (i,out))->a.length<=k->a.length<=500->(∀c∈a,c.length<=2000)->out.length<=500/\∀c∈out,c.length<=2000
 |[],k,a,i,out,h,_,r,v=>by have e:(Sum.inr (i,out):(Nat×Nat)⊕(Nat×List ag))= .inr (k,a):=h;cases e;exact⟨r,v⟩
 |c::m,k,a,i,out,⟨D,z,h⟩,y,n,j=>by
  split at h
  ·cases h
  ·split at h
   ·exact wy m k a i out h y n j
   ·split at h
    ·refine wy m (k+1) _ i out h ?_ ?_ (λd o=> ?_)
     ·rw[TE,TK,T1];omega
     ·rw[TE,TK,T1];omega
     ·rcases T4.1 o with e|e
      ·exact j d e
      ·rw[TL] at e;rw[e];obtain⟨f,p⟩:=z;exact p_ f _ _ _ _ _ p
    ·exact wy m (k+1) a i out h (by omega) n j
structure tP (P:Nat)(x:bP):Prop where
 name:x.name.length<=P
 aF:x.aF.length<=100
 nw:∀n∈x.aF,n.length<=P
 aH:x.aH.length<=500
 cw:∀c∈x.aH,c.length<=2000
theorem vK {N:ag->Nv}{P:Nat}:∀(m:List cA) (k:Nat) (d:List bP) (f :Nat) (a:List bP),iV N m k d (.inr (f,a))->(∀x∈m,x.name.length<=P/\x.aF.length<=100/\∀n∈x.aF,n.length<=P)->(∀x∈d,tP P x)->a.length=d.length+m.length/\∀x∈a,tP P x
 |[],k,d,f,a,h,_,i=>by have e:(Sum.inr (f,a):(Nat×Nat)⊕(Nat×List bP))= .inr (k,d):=h;cases e;exact⟨rfl,i⟩
 |x::M,k,d,f,a,⟨G,I,h⟩,o,i=>by
  cases G with
  |inl e=>cases h
  |inr u=>
   obtain⟨p,Q⟩:=u;obtain⟨E,H⟩:=wy _ _ _ _ _ I (TS _) (TS _) (λc J=>(by cases J));obtain⟨r,v,z⟩:=o x (TY ..);obtain⟨D,O⟩:=vK M p _ f a h (λy j=>o y (TX _ j)) (λy j=>by
    rcases T4.1 j with e|e
    ·exact i y e
    ·rw[TL] at e;rw[e];exact⟨r,v,z,E,H⟩)
   refine⟨?_,O⟩;rw[D,TE,TK,TK,T1];omega
theorem Hz {P:Nat}:∀f:List bP,(∀x∈f,tP P x)->mn f<=f.length*(P+100*(P+2)+1001002)
 |[],_=>by simp[mn]
 |x::d,h=>by
  have m:=Hz d (λy i=>h y (TX _ i));have a:=h x (TY ..);have n:=Fh P x.aF a.nw;have o:=Fh 2000 x.aH a.cw;have p:=U4 (P+2) a.aF;have j:=U4 (2000+2) a.aH;have r:=a.name;have e:mn (x::d)=x.sz+mn d:=by simp[mn]
  rw[e,TK,VO];unfold bP.sz;omega
section
variable {s:St} {fs:List aI} {us:List (Nat×List ag)}
theorem OU {t:cE}{name:ag}(h:t.opn≠[]\/t.cD≠[]):(dB s fs us t name).2.opn≠[]\/(dB s fs us t name).2.cD≠[]:=by
 unfold dB;split
 ·exact h
 ·split
  ·exact h
  ·split
   ·exact h
   ·exact .inl (by simp)
theorem Qv {t:cE}{x:cA×Nat}(a:t.opn.getLast?=some x):(fA s fs us t).2.opn≠[]\/(fA s fs us t).2.cD≠[]:=by
 unfold fA;rw[a];simp only;split
 ·unfold lX;rw[a];refine .inr ?_;simp only;split
  ·simp
  ·rename_i q;exact λe=>q (by rw[e];exact TS _)
 ·exact OU (.inl (by simp))
theorem PU {g:ag}(h:gM s fs us (dB s fs us gi g) o)(a:o.1=0):0<o.2.cD.length:=by
 have m:=(uC h a).2;obtain⟨n,d⟩:=h;have:=tZ (λt=>t.opn≠[]\/t.cD≠[]) (λt x _ i _=>Qv i) n _ o d (λe=>by
  unfold dB at e⊢;have f:¬bG gi.bF g=2:=λq=>(by cases q);have j:¬bG gi.bF g=1:=λq=>(by cases q);rw[TJ f,TJ j] at e⊢;split at e
  ·cases e
  ·rename_i q;rw[TJ q];exact .inl (by simp)) a
 rcases this with q|q
 ·exact absurd m q
 ·exact Uy.2 q
end
def rh (d:(Nat×Nat)⊕(Nat×List bP))(a:ag×Nat×Nat):Prop:=match d with| .inl (er,ln)=>a=([],er,ln)| .inr (k,d)=>(500<k/\a=([],5,0))\/(k<=500/\a=match fB d with|none=>([],5,0)|some f=>(f,0,0))
def s5 (s:St)(fs:List aI)(g:ag)(a:ag×Nat×Nat):Prop:=
 (g=[]/\a=([],8,0))\/(g≠[]/\2000<g.length/\a=([],5,0))\/
  (g≠[]/\g.length<=2000/\∃q,gM s fs (cB s fs s.bD) (dB s fs (cB s fs s.bD) gi g) q/\
   ((q.1≠0/\a=([],q.1,0))\/(q.1=0/\100<q.2.cD.length/\a=([],5,0))\/
     (q.1=0/\q.2.cD.length<=100/\∃d,iV (cW s.aV) q.2.cD 0 [] d/\rh d a)))
def g_ (fs:List aI)(a goal:ag)(d:ag×Nat×Nat):Prop:=
 ((cI fs a).1≠0/\d=([],(cI fs a).1,(cI fs a).2.1))\/
   ((cI fs a).1=0/\s5 (cI fs a).2.2 fs (fX (cI fs a).2.2 goal) d)
def fQ (b:Bk)(t:Wk):List cA:=t.aW.map λa=>eC b (bS t a).1
def xD (S:(Nat×Nat)⊕List (List ag))(er a:Nat)(d:List (List ag)):Prop:=match S with
 | .inl e=>er=e.1/\a=e.2
 | .inr m=>a=0/\d=m/\((500<iL m/\er=5)\/(iL m<=500/\er=0))
def xp (b:Bk)(fs:List aI)(g:ag)(er a:Nat)(t:Wk)(d:List (List ag)):Prop:=
 (g=[]/\er=8/\a=0)\/(g≠[]/\2000<g.length/\er=5/\a=0)\/
  (g≠[]/\g.length<=2000/\∃f q,dZ b fs f jg g=some q/\t=q.2/\
   ((q.1≠0/\er=q.1/\a=0)\/(q.1=0/\100<q.2.aQ.length/\er=5/\a=0)\/
     (q.1=0/\q.2.aQ.length<=100/\∃S,qm (nR b.aV) (fQ b q.2) [] S/\xD S er a d)))
def rp (b:Bk)(fs:List aI)(goal:ag)(er a:Nat)(t:Wk)(d:List (List ag)):Prop:=(b.cy≠0/\er=b.cy/\a=b.bW)\/(b.cy=0/\xp b fs (if goal=[] then pg b else goal) er a t d)
theorem wZ {N:ag->Nv} :∀{i:List (ag×Nat)} {d:List ag} {e:Nat×Nat},pB N u i d (.inl e)->e.1≠0
 |[],_,_,h=>by cases h
 |_::_,_,_,⟨f,_,h⟩=>by
  by_cases a:f.er=0
  ·rw[TJ (λq=>q a)] at h;split at h
   ·exact wZ h
   ·exact wZ h
  ·rw[TP a] at h;cases h;exact a
theorem GB {N:ag->Nv}:∀{i:List cA} {d:List (List ag)} {e:Nat×Nat},qm N i d (.inl e)->e.1≠0
 |[],_,_,h=>by cases h
 |x::m,d,e,⟨S,a,h⟩=>by
  match S,a,h with
  | .inl j,a,h=>have f:(Sum.inl e:(Nat×Nat)⊕List (List ag))= .inl j :=h;cases f;exact wZ a
  | .inr l,_,h=>exact GB h
def kM (b:Bk)(t:Wk)(a:List (List ag)):List bP:=List.zipWith qk (fQ b t) a
theorem DC:∀(fs a:List aI) (q:ag),Pl.look (fs.foldl Pl.bp a) q=(Pl.look a q).or (Pl.look fs q)
 |[],a,q=>by simp[Pl.look]
 |f::d,a,q=>by
  rw[Ux,DC d,Pd];cases Pl.look a q with
  |some g=>rfl
  |none=>
   rw[YS,YS];unfold Pl.look;rw[UT];by_cases h:f.aJ=q
   ·rw[TP h];simp[h]
   ·rw[TJ h,YS,show (f.aJ==q)=false from by simp[h]]
theorem Cw (fs:List aI)(q:ag):Pl.look (fs.foldl Pl.bp []) q=Pl.look fs q:=by rw[DC];rfl
variable {f:List (List ag)}
section
variable {fs F:List aI}
theorem Pf(h:∀q,Pl.look F q=Pl.look fs q)(rec:Bk->ag->Bk)(can:Bool)(b:Bk)(w:ag)(n:Nat):jk rec can F b w n=jk rec can fs b w n:=by unfold jk;rw[h]
theorem EG(h:∀q,Pl.look F q=Pl.look fs q)(rec:Bk->ag->Bk)(can:Bool)(n:Nat):∀(a:List ag) (b:Bk),j5 rec can F n a b=j5 rec can fs n a b
 |[],_=>rfl|w::a,b=>by rw[j5,j5,Pf h,EG h rec can n a]
theorem Oo(h:∀q,Pl.look F q=Pl.look fs q)(rec:Bk->ag->Bk)(can:Bool)(b:Bk)(op:Bool)(x:Nat×ag):fM rec can F b op x=fM rec can fs b op x:=by unfold fM lV;rw[EG h]
theorem za(h:∀q,Pl.look F q=Pl.look fs q)(rec:Bk->ag->Bk)(can:Bool):∀(xs:List (Nat×ag)) (b:Bk) (op:Bool),jj rec can F xs b op=jj rec can fs xs b op
 |[],_,_=>rfl|x::xs,b,op=>by rw[jj,jj,Oo h,za h rec can xs]
theorem F2(h:∀q,Pl.look F q=Pl.look fs q):∀d:Nat,jP F d=jP fs d
 |0=>by funext b t;rw[jP,jP,za h]
 |d+1=>by funext b t;rw[jP,jP,za h,F2 h d]
theorem NX(h:∀q,Pl.look F q=Pl.look fs q)(a:ag):eb F a=eb fs a:=by unfold eb;rw[h,F2 h]
theorem PA(h:∀q,Pl.look F q=Pl.look fs q)(b:Bk)(n:ag):cT b F n=cT b fs n:=by
 have e:jD b F n=jD b fs n:=by unfold jD gn jR;simp only[h]
 unfold cT;rw[e,h]
theorem F6(h:∀q,Pl.look F q=Pl.look fs q)(b:Bk):∀f:Nat,dZ b F f=dZ b fs f
 |0=>rfl|f+1=>by funext t n;rw[dZ,dZ,PA h,F6 h b f]
theorem OM(h:∀q,Pl.look F q=Pl.look fs q){b:Bk}{goal:ag}{er:Nat}{t:Wk}(q:rp b F goal er i t f):rp b fs goal er i t f:=by unfold rp xp at*;simp only[F6 h] at q;exact q
end
theorem zW (a l:ag)(k:Nat):(a++l).getD (a.length+k) 0=l.getD k 0:=by rw[TO,TO,Uq (XW _ _),Vf]
theorem G0 (a l:ag)(k:Nat):Pl.opAt (a++l) (a.length+k)=Pl.opAt l k:=by unfold Pl.opAt;rw[zW]
theorem qT (a l:ag):Pl.opAt (a++l) a.length=Pl.opAt l 0:=G0 a l 0
theorem H7 (a l:ag)(k:Nat):two (a++l) (a.length+k)=two l k:=by unfold two;rw[zW,Xj,zW]
theorem zD (a l:ag):a_ (a++l) a.length=⟨Pl.opAt l 0,a.length,a.length+ee (Pl.opAt l 0),(a_ l 0).first,(a_ l 0).s7⟩:=by unfold a_;rw[qT,G0,H7,H7]
def IT (c:ag)(m a h q d :Nat):Prop:=∀A:Aw,(∀x,a<=x->x<q->A x=none)->Pl.Spec c m q d A->Pl.Spec c m a h A
def jm (m:Nat)(e:ag)(h d :Nat):Prop:=∀a b:ag,IT (a++(e++b)) m a.length h (a.length+e.length) d
theorem E6 {A:Aw}(h:A i=none):Pl.del A i=A:=by
 funext q;unfold Pl.del;split
 ·rename_i e;rw[e,h]
 ·rfl
theorem qZ (a l:ag)(m h:Nat)(i:Pl.opAt l 0≠6)(u:ee (Pl.opAt l 0)≠0)(v:ee (Pl.opAt l 0)<=l.length)(j:iD m (a_ l 0))(p:Pl.iK (Pl.opAt l 0)<=h)(n:Pl.ey (Pl.opAt l 0) h<=16):
 IT (a++l) m a.length h (a.length+ee (Pl.opAt l 0)) (Pl.ey (Pl.opAt l 0) h):=λA r o=>by
 have f:A a.length=none:=r _ ak (by omega);rw[lU (by rw[TE];omega),zD,qT];refine⟨λq d=>(by rw[f] at d;cases d),⟨by rw[qT];exact u,by rw[qT,TE];omega⟩,j,p,n,λe=>absurd e i,?_⟩;unfold gz;rw[TJ (by exact i)];simp only;rw[E6 f];exact o
theorem jm.nil (m h:Nat):jm m [] h h:=λ_ _ _ _ a=>a
theorem jm.comp {m h:Nat}(x:jm m j h i)(y:jm m D i E):jm m (j++D) h E:=λa b A n d=>by have o:=x a (D++b) A;have f:=y (a++j) b A;rw[TE] at f n d;rw[Ub] at f d⊢;exact o (λz i E=>n z i (by omega)) (f (λz i E=>n z (by omega) (by omega)) (by rw[Xj];exact d))
def Fw (T:List ag)(ef:List bL)(e:ag)(st:List Bool)(fl:Nat->Bool)(X:Wd)(i :List Bool)(f :Nat->Bool)(j :Wd):Prop:=∀(a b:ag) (d:Wd),Pl.Ends (a++(e++b)) T ef a.length st fl X d->Pl.Ends (a++(e++b)) T ef (a.length+e.length) i f j d
theorem Fw.nil (T:List ag)(ef:List bL)(st:List Bool)(fl:Nat->Bool)(X:Wd):Fw T ef [] st fl X st fl X:=λ_ _ _ h=>h
variable {I ad:List Bool}{J Q:Nat->Bool}{v aa:Wd}
theorem Fw.comp {T:List ag}{ef:List bL}{st:List Bool}{fl:Nat->Bool}{X:Wd}(x:Fw T ef j st fl X I J v)(y:Fw T ef D I J v ad Q aa):Fw T ef (j++D) st fl X ad Q aa:=λa b f h=>by have i:=x a (D++b) f;have d:=y (a++j) b f;rw[TE] at d⊢;rw[Ub] at d;rw[Ub j] at h⊢;have:=d (i h);rw[Xj] at this;exact this
theorem qf (T:List ag)(ef:List bL)(a l:ag)(st:List Bool)(fl:Nat->Bool)(X:Wd):dG T ef (a_ (a++l) a.length) st fl X=dG T ef ⟨Pl.opAt l 0,a.length,a.length+ee (Pl.opAt l 0),(a_ l 0).first,(a_ l 0).s7⟩ st fl X:=by rw[zD]
theorem rq {T:List ag}{ef:List bL}{e:ag}{st:List Bool}{fl:Nat->Bool}{X:Wd}(f:X.exit=0)(i:0<e.length)(h:∀a b:ag,dG T ef (a_ (a++(e++b)) a.length) st fl X=(a.length+e.length,I,J,v)):Fw T ef e st fl X I J v :=λa b j d=>by have:=d.step (by rw[TE,TE];omega) f (by rw[h a b];simp only;omega);rw[h a b] at this;exact this
theorem oE (n:Nat):dc n 2=[UInt8.ofNat (n/256),UInt8.ofNat n]:=rfl
theorem om {n:Nat}(h:n<65536)(x:UInt8)(b:ag):two (x::(dc n 2++b)) 1=n:=by rw[oE];unfold two;simp only[UE,UI,aa_,aba,Xw];omega
theorem FB {n:Nat}(h:n<65536)(x:UInt8)(k:Nat)(b:ag):two (x::(dc k 2++(dc n 2++b))) 3=n:=by rw[oE,oE];unfold two;simp only[UE,UI,aa_,aba,Xw];omega
def qu (k:Nat):ag:=2::dc k 2
def jy (k a:Nat):ag:=3::(dc k 2++dc a 2)
def qy (f:Nat):ag:=[4,UInt8.ofNat f]
def oC (k:Nat):ag:=7::dc k 2
def lH (a:Nat):ag:=[8,UInt8.ofNat a]
def ei (n:Nat):ag:=6::dc n 2
section
variable {T:List ag} {ef:List bL} {st:List Bool} {fl:Nat->Bool} {X:Wd}
theorem NJ (m h:Nat)(d:h<16):jm m [1,1] h (h+1):=λa b=>qZ a ([1,1]++b) m h (by show(1:Nat)≠6;decide) (by show(2:Nat)≠0;decide) (by show 2<=(1::1::b).length;simp) ⟨λ_=>(by show(1:UInt8).toNat<=1;decide),λe=>(by rcases e with e|e<;>cases e),λe=>(by cases e)⟩ (TS _) (by show h-0+1<=16;omega)
theorem PK (d:X.exit=0):Fw T ef [1,1] st fl X (st++[true]) fl X:=rq d (by simp) λa b=>by rw[qf];rfl
theorem PJ {m k:Nat}(f:k<m)(d:k<65536)(h:Nat)(i:h<16):jm m (qu k) h (h+1):=λa b=>qZ a (qu k++b) m h (by show(2:Nat)≠6;decide) (by show(3:Nat)≠0;decide) (by show 3<=(qu k++b).length;simp[qu,oE]) ⟨λe=>(by cases e),λ_=>(by show two (2::(dc k 2++b)) 1<m;rw[om d];exact f),λe=>(by cases e)⟩ (TS _) (by show h-0+1<=16;omega)
theorem Rg {k:Nat}(d:k<65536)(f:X.exit=0):Fw T ef (qu k) st fl X (st++[(Pl.look X.aX (T.getD k [])).isNone]) fl X:=rq f (by simp[qu]) λa b=>by rw[qf];show(a.length+3,st++[(Pl.look X.aX (T.getD (two (2::(dc k 2++b)) 1) [])).isNone],fl,X)=_;rw[om d];rfl
theorem Qq {m:Nat}(f h:Nat)(d:h<16):jm m (qy f) h (h+1):=λa b=>qZ a (qy f++b) m h (by show(4:Nat)≠6;decide) (by show(2:Nat)≠0;decide) (by show 2<=(qy f++b).length;simp[qy]) ⟨λe=>(by cases e),λe=>(by rcases e with e|e<;>cases e),λe=>(by cases e)⟩ (TS _) (by show h-0+1<=16;omega)
theorem RS {f:Nat}(d:f<256)(i:X.exit=0):Fw T ef (qy f) st fl X (st++[fl f]) fl X:=rq i (by simp[qy]) λa b=>by rw[qf];show(a.length+2,st++[fl (UInt8.ofNat f).toNat],fl,X)=_;rw[Xw,Nat.mod_eq_of_lt d];rfl
theorem Hy {m h:Nat}(d:h<15):jm m [5] (h+2) (h+1):=λa b=>qZ a ([5]++b) m (h+2) (by show(5:Nat)≠6;decide) (by show(1:Nat)≠0;decide) (by show 1<=(5::b).length;simp) ⟨λe=>(by cases e),λe=>(by rcases e with e|e<;>cases e),λe=>(by cases e)⟩ (by show 2<=h+2;omega) (by show h+2-2+1<=16;omega)
theorem Iv (u v:Bool)(d:X.exit=0):Fw T ef [5] (st++[u]++[v]) fl X (st++[v||u]) fl X:=rq d (by simp) λa b=>by rw[qf];show(a.length+1,(st++[u]++[v]).dropLast.dropLast++[(st++[u]++[v]).getLast?.getD false||(st++[u]++[v]).dropLast.getLast?.getD false],fl,X)=_;simp
theorem Qn {m k:Nat}(d:k<m)(j:k<65536)(n:i<m)(o:i<65536)(h:Nat)(r:h<16):jm m (jy k i) h (h+1):=λa b=>qZ a (jy k i++b) m h (by show(3:Nat)≠6;decide) (by show(5:Nat)≠0;decide) (by show 5<=(jy k i++b).length;simp[jy,oE]) ⟨λe=>(by cases e),λe=>(by rcases e with e|e<;>cases e),λ_=>(by have f:two (jy k i++b) 1=k:=(by unfold jy;rw[UE,Ub,om j]);have p:two (jy k i++b) 3=i:=(by unfold jy;rw[UE,Ub,FB o]);exact⟨(by show two (jy k i++b) 1<m;rw[f];exact d),(by show two (jy k i++b) 3<m;rw[p];exact n)⟩)⟩ (TS _) (by show h-0+1<=16;omega)
theorem Q9 {k:Nat}(d:k<65536)(m:i<65536)(f:X.exit=0):Fw T ef (jy k i) st fl X (st++[h_ X.aX (T.getD k []) (T.getD i [])]) fl X:=rq f (by simp[jy]) λa b=>by
 rw[qf];have j:two (jy k i++b) 1=k:=by unfold jy;rw[UE,Ub,om d]
 have n:two (jy k i++b) 3=i:=by unfold jy;rw[UE,Ub,FB m]
 show(a.length+5,st++[h_ X.aX (T.getD (two (jy k i++b) 1) []) (T.getD (two (jy k i++b) 3) [])],fl,X)=_;rw[j,n];rfl
theorem O4 {m k:Nat}(f:k<m)(d:k<65536)(h:Nat)(i:h<=16):jm m (oC k) h h:=λa b=>qZ a (oC k++b) m h (by show(7:Nat)≠6;decide) (by show(3:Nat)≠0;decide) (by show 3<=(oC k++b).length;simp[oC,oE]) ⟨λe=>(by cases e),λ_=>(by show two (7::(dc k 2++b)) 1<m;rw[om d];exact f),λe=>(by cases e)⟩ (TS _) (by show h-0+0<=16;omega)
theorem PM {k:Nat}(d:k<65536)(f:X.exit=0):Fw T ef (oC k) st fl X st fl (ia ef X (T.getD k [])):=rq f (by simp[oC]) λa b=>by rw[qf];show(a.length+3,st,fl,ia ef X (T.getD (two (7::(dc k 2++b)) 1) []))=_;rw[om d];rfl
theorem PN {m:Nat}(d h:Nat)(f:h<=16):jm m (lH d) h h:=λa b=>qZ a (lH d++b) m h (by show(8:Nat)≠6;decide) (by show(2:Nat)≠0;decide) (by show 2<=(lH d++b).length;simp[lH]) ⟨λe=>(by cases e),λe=>(by rcases e with e|e<;>cases e),λe=>(by cases e)⟩ (TS _) (by show h-0+0<=16;omega)
theorem Q1 (d:i<256)(f:X.exit=0):Fw T ef (lH i) st fl X st (λq=>if q=i then true else fl q) X:=rq f (by simp[lH]) λa b=>by rw[qf];show(a.length+2,st,(λq=>if q=(UInt8.ofNat i).toNat then true else fl q),X)=_;rw[Xw,Nat.mod_eq_of_lt d];rfl
end
def mj:Aw:=λ_=>none
theorem NQ {c:ag}{m h:Nat}(n:Pl.Spec c m i h mj):Pl.Spec c m i h (Pl.put mj i h):=by
 have e:Pl.del (Pl.put mj i h) i=Pl.del mj i:=by
  funext q;unfold Pl.del Pl.put;split
  ·rfl
  ·rfl
 have r:Pl.ly (Pl.put mj i h) i h:=λq j=>by unfold Pl.put at j;rw[TP rfl] at j;cases j;rfl
 by_cases p:i<c.length
 ·rw[lU p] at n⊢;obtain⟨_,a,b,d,f,g,o⟩:=n;refine⟨r,a,b,d,f,?_,?_⟩
  ·rw[e];exact g
  ·unfold gz at o⊢;rw[show (a_ c i).eD=i from rfl] at o⊢;rw[e];exact o
 ·rw[uv p] at n⊢;exact⟨r,n.2.1,λq j=>by unfold Pl.put;rw[TJ j];rfl⟩
theorem ME {m n:Nat}(a l:ag)(o:n<65536)(j:Pl.Spec (a++(ei n++l)) m (a.length+3) 0 (Pl.put mj (a.length+3+n) 0)):Pl.Spec (a++(ei n++l)) m a.length 1 mj:=by
 have f:Pl.opAt (ei n++l) 0=6:=rfl;have ef:(a_ (ei n++l) 0).first=n:=by show two (6::(dc n 2++l)) 1=n;exact om o _ _
 have i:Pl.del mj a.length=mj:=E6 rfl;rw[lU (by simp[ei]),zD,qT,f,ef];refine⟨λq d=>(by cases d),⟨by rw[qT,f];decide,?_⟩,⟨λe=>(by cases e),λe=>(by rcases e with e|e<;>cases e),λe=>(by cases e)⟩,by decide,by decide,λ_ q d=> ?_,?_⟩
 ·rw[qT,f];show a.length+3<=_;simp[ei,oE]
 ·rw[i] at d;cases d
 ·unfold gz;simp only[Vn];rw[i];exact j
def th (F K:ag->Nat)(name a:ag):ag:=qy (F a)++([5]++(jy (K name) (K a)++[5]))
def nI (F K:ag->Nat)(d:Bool)(name:ag)(a:List ag):ag:=if d then [1,1] else qu (K name)++a.flatMap (th F K name)
def iB (K:ag->Nat)(a:List ag):ag:=a.flatMap λc=>oC (K c)
def jQ (K:ag->Nat)(a:List ag)(d:Nat):ag:=iB K a++lH d
def jU (F K:ag->Nat)(x:bP)(a:Nat):ag:=nI F K x.ph x.name x.aF++(ei (jQ K x.aH a).length++jQ K x.aH a)
structure jq (T:List ag)(K:ag->Nat)(s:ag):Prop where
 lt:K s<T.length
 eD:T.getD (K s) []=s
section
variable {T:List ag} {F K:ag->Nat} {ef:List bL}
theorem Mz {name:ag}(f:T.length<=65536)(a:jq T K name)(d:jq T K j):jm T.length (th F K name j) 1 1:=(Qq _ 1 (by decide)).comp ((Hy (h:=0) (by decide)).comp ((Qn a.lt (T7 a.lt f) d.lt (T7 d.lt f) 1 (by decide)).comp (Hy (h:=0) (by decide))))
theorem DZ {name:ag}(d:T.length<=65536)(f:jq T K name):∀a:List ag,(∀n∈a,jq T K n)->jm T.length (a.flatMap (th F K name)) 1 1
 |[],_=>jm.nil _ _
 |n::i,h=>by rw[Ud];exact(Mz d f (h n (TY ..))).comp (DZ d f i λy j=>h y (TX _ j))
theorem P6 {d:Bool}{name:ag}(i:T.length<=65536)(f:d=false->jq T K name)(j:d=false->∀n∈a,jq T K n):jm T.length (nI F K d name a) 0 1:=by
 unfold nI;cases d with
 |true=>exact NJ _ 0 (by decide)|false=>exact(PJ (f rfl).lt (T7 (f rfl).lt i) 0 (by decide)).comp (DZ i (f rfl) a (j rfl))
theorem EK (d:T.length<=65536):∀a:List ag,(∀c∈a,jq T K c)->jm T.length (iB K a) 0 0
 |[],_=>jm.nil _ _
 |c::i,h=>by unfold iB;rw[Ud];have f:=h c (TY ..);exact(O4 f.lt (T7 f.lt d) 0 (by decide)).comp (EK d i λy j=>h y (TX _ j))
def Rest (m:Nat)(e:ag):Prop:=∀a b:ag,Pl.Spec (a++(e++b)) m (a.length+e.length) 0 mj->Pl.Spec (a++(e++b)) m a.length 0 mj
theorem Rest.nil (m:Nat):Rest m []:=λ_ _ h=>h
theorem Rest.comp {m:Nat}(x:Rest m j)(y:Rest m D):Rest m (j++D):=λa b d=>by have i:=x a (D++b);have f:=y (a++j) b;rw[TE] at f d;rw[Ub] at f d⊢;exact i (f (by rw[Xj];exact d))
structure xV (T:List ag)(K:ag->Nat)(x:bP):Prop where
 name:x.ph=false->jq T K x.name
 aF:x.ph=false->∀n∈x.aF,jq T K n
 aH:∀c∈x.aH,jq T K c
theorem Nk {x:bP}(r:T.length<=65536)(h:xV T K x)(E:(jQ K x.aH i).length<65536):Rest T.length (jU F K x i):=λa b d=>by
 unfold jU at d⊢;generalize H:jQ K x.aH i=B at*;have I:jm T.length B 0 0:=by rw[<-H];exact(EK r x.aH h.aH).comp (PN i 0 (by decide))
 have v:=P6 (F:=F) r h.name h.aF;generalize nI F K x.ph x.name x.aF=P at*;have o:(ei B.length).length=3:=rfl;have j:a++(P++(ei B.length++B)++b)=(a++P)++(ei B.length++(B++b)):=by simp
 have n:a++(P++(ei B.length++B)++b)=(a++P++ei B.length)++(B++b):=by simp
 have u:a++(P++(ei B.length++B)++b)=a++(P++(ei B.length++B++b)):=by simp
 have G:a.length+(P++(ei B.length++B)).length=(a++P).length+3+B.length:=by simp only[TE,o];omega
 have f:(a++P++ei B.length).length=(a++P).length+3:=by simp only[TE,o]
 rw[G] at d;have D:=NQ d;have p:=I (a++P++ei B.length) b (Pl.put mj ((a++P).length+3+B.length) 0) (λz _ y=>by unfold Pl.put;rw[TJ (by rw[f] at y;omega)];rfl) (by rw[<-n,f];exact D);rw[<-n,f,j] at p;have m:=ME (a++P) (B++b) E p;rw[<-j,u] at m;rw[u];refine v a (ei B.length++B++b) mj (λ_ _ _=>rfl) ?_;rw[<-TE];exact m
def pI (F:ag->Nat)(fl:Nat->Bool)(fs:List aI)(x:bP):Bool:=x.ph||((Pl.look fs x.name).isNone||x.aF.any λn=>fl (F n)||h_ fs x.name n)
def gv (ef:List bL):List ag->Wd->Wd
 |[],X=>X
 |c::a,X=>if X.exit=0 then gv ef a (ia ef X c) else X
theorem Gu (ef:List bL)(a:List ag)(X:Wd)(h:X.exit≠0):gv ef a X=X:=by
 cases a with
 |nil=>rfl|cons c d=>rw[gv,TJ h]
def lP (ef:List bL)(F:ag->Nat)(a:Nat)(x:bP)(s:(Nat->Bool)×Wd):(Nat->Bool)×Wd:=if pI F s.1 s.2.aX x then((λq=>if q=a then true else s.1 q),gv ef x.aH s.2) else s
def rY (ef:List bL)(F:Nat->ag->Nat):List bP->Nat->(Nat->Bool)×Wd->Wd
 |[],_,s=>s.2
 |x::d,a,s=>if s.2.exit=0 then rY ef F d (a+1) (lP ef (F a) a x s) else s.2
theorem Gb (a:ag->Bool)(q:ag->Bool):∀(d:List ag) (u:Bool),d.foldl (λu n=>q n||(a n||u)) u=(u||d.any λn=>a n||q n)
 |[],u=>by simp
 |n::f,u=>by rw[Ux,Gb a q f,VI];cases u<;>cases a n<;>cases q n<;>simp
variable {fl:Nat->Bool} {X:Wd}
theorem FP {name:ag}(f:T.length<=65536)(i:jq T K name)(a:X.exit=0):∀(d:List ag) (u:Bool),(∀n∈d,jq T K n/\F n<256)->Fw T ef (d.flatMap (th F K name)) [u] fl X [d.foldl (λu n=>h_ X.aX name n||(fl (F n)||u)) u] fl X
 |[],_,_=>Fw.nil _ _ _ _ _
 |n::r,u,h=>by obtain⟨m,z⟩:=h n (TY ..);rw[Ud,Ux];have o:Fw T ef (qy (F n)) [u] fl X ([]++[u]++[fl (F n)]) fl X:=RS z a;have p:Fw T ef [5] ([]++[u]++[fl (F n)]) fl X ([]++[fl (F n)||u]) fl X:=Iv u (fl (F n)) a;have j:=Q9 (T:=T) (ef:=ef) (st:=[fl (F n)||u]) (fl:=fl) (T7 i.lt f) (T7 m.lt f) a;rw[i.eD,m.eD] at j;have x:Fw T ef [5] ([]++[fl (F n)||u]++[h_ X.aX name n]) fl X ([]++[h_ X.aX name n||(fl (F n)||u)]) fl X:=Iv _ _ a;exact(o.comp (p.comp (j.comp x))).comp (FP f i a r _ λy v=>h y (TX _ v))
theorem Ro {x:bP}(j:T.length<=65536)(h:xV T K x)(o:∀n∈x.aF,F n<256)(d:X.exit=0):Fw T ef (nI F K x.ph x.name x.aF) [] fl X [pI F fl X.aX x] fl X:=by
 unfold nI pI;cases a:x.ph with
 |true=>exact PK d
 |false=>have f:=Rg (T:=T) (ef:=ef) (st:=[]) (fl:=fl) (T7 (h.name a).lt j) d;rw[(h.name a).eD] at f;have i:=FP (ef:=ef) (fl:=fl) j (h.name a) d x.aF ((Pl.look X.aX x.name).isNone) λn m=>⟨h.aF a n m,o n m⟩;rw[Gb] at i;exact f.comp i
theorem M9 {n:Nat}(a l:ag)(u:Bool)(f:n<65536)(d:X.exit=0)(h:Pl.Ends (a++(ei n++l)) T ef a.length [u] fl X v):Pl.Ends (a++(ei n++l)) T ef (if u then a.length+3 else a.length+3+n) [] fl X v:=by
 have e:dG T ef (a_ (a++(ei n++l)) a.length) [u] fl X=(if u then a.length+3 else a.length+3+n,[],fl,X):=by rw[qf];show(if u then a.length+3 else a.length+3+two (6::(dc n 2++l)) 1,[],fl,X)=_;rw[om f]
 have:=h.step (by simp[ei]) d (by rw[e];cases u<;>simp<;>omega);rw[e] at this;exact this
theorem Dy (p:T.length<=65536):∀(d:List ag) (X:Wd) (a b:ag) (f:Wd),(∀c∈d,jq T K c)->X.exit=0->Pl.Ends (a++(iB K d++b)) T ef a.length [] fl X f->((gv ef d X).exit=0/\Pl.Ends (a++(iB K d++b)) T ef (a.length+(iB K d).length) [] fl (gv ef d X) f)\/((gv ef d X).exit≠0/\f=gv ef d X)
 |[],X,a,b,f,_,m,h=> .inl ⟨m,h⟩
 |c::i,X,a,b,f,o,m,h=>by
  have r:=o c (TY ..);have v:iB K (c::i)=oC (K c)++iB K i:=by unfold iB;rw[Ud]
  rw[v] at h⊢;rw[Ub] at h⊢;have n:=PM (T7 r.lt p) m a (iB K i++b) f h;rw[r.eD] at n;rw[gv,TP m];by_cases j:(ia ef X c).exit=0
  ·have:=Dy p i (ia ef X c) (a++oC (K c)) b f (λy u=>o y (TX _ u)) j (by rw[TE,Ub];exact n);rw[TE,Ub] at this;rw[TE,<-Xj];exact this
  ·rw[Gu _ _ _ j];exact .inr ⟨j,(n.stop λq=>j q.2).symm⟩
theorem DU {x:bP}(z:T.length<=65536)(h:xV T K x)(N:∀n∈x.aF,F n<256)(R:i<256)(J:(jQ K x.aH i).length<65536)(j:X.exit=0)(a b:ag)(p:Pl.Ends (a++(jU F K x i++b)) T ef a.length [] fl X v):((lP ef F i x (fl,X)).2.exit=0/\Pl.Ends (a++(jU F K x i++b)) T ef (a.length+(jU F K x i).length) [] (lP ef F i x (fl,X)).1 (lP ef F i x (fl,X)).2 v)\/((lP ef F i x (fl,X)).2.exit≠0/\v=(lP ef F i x (fl,X)).2):=by
 have O:=Ro (ef:=ef) (fl:=fl) z h N j;unfold jU at p⊢;generalize nI F K x.ph x.name x.aF=P at*;have u:jQ K x.aH i=iB K x.aH++lH i:=rfl;generalize V:jQ K x.aH i=B at*;have r:(ei B.length).length=3:=rfl;have o:a++(P++(ei B.length++B)++b)=(a++P)++(ei B.length++(B++b)):=by simp
 have E:a++(P++(ei B.length++B)++b)=a++(P++(ei B.length++B++b)):=by simp
 have I:a++(P++(ei B.length++B)++b)=(a++P++ei B.length)++(iB K x.aH++(lH i++b)):=by rw[u];simp
 have y:a++(P++(ei B.length++B)++b)=(a++P++ei B.length++iB K x.aH)++(lH i++b):=by rw[u];simp
 have H:a.length+(P++(ei B.length++B)).length=(a++P).length+3+B.length:=by simp only[TE,r];omega
 have S:(a++P++ei B.length).length=(a++P).length+3:=by simp only[TE,r]
 rw[E] at p;have D:=O a (ei B.length++B++b) v p;rw[<-E,o,<-TE] at D;have d:=M9 (a++P) (B++b) _ J j D;unfold lP;cases G:pI F fl X.aX x with
 |false=>simp only[G,Uj,Vk] at d⊢;refine .inl ⟨j,?_⟩;rw[H,o];exact d
 |true=>
  simp only[G,Vn] at d⊢;rw[<-o,I,<-S] at d;rcases Dy z x.aH X (a++P++ei B.length) (lH i++b) v h.aH j d with⟨f,m⟩|⟨f,m⟩
  ·refine .inl ⟨f,?_⟩;rw[<-I,y,<-TE] at m;have Q:=Q1 R f (a++P++ei B.length++iB K x.aH) b v m;rw[H,y];have M:(a++P++ei B.length++iB K x.aH).length+(lH i).length=(a++P).length+3+B.length:=by
    have Z:B.length=(iB K x.aH).length+(lH i).length:=by rw[u,TE]
    simp only[TE,r];omega
   rw[<-M];exact Q
  ·exact .inr ⟨f,m⟩
end
def eU (T:List ag)(s:ag):Nat:=(T.findIdx? (λx=>x==s)).getD T.length
structure Gd (T:List ag)(q:Wr):Prop where
 bk:q.aY<+:T
 ok:q.kr=false
theorem od (a:Wr)(op:Nat)(os:List Nat):(bR a op os).bh=a.bh++(UInt8.ofNat op::(dc (os.getD 0 0) (gP op 0)++dc (os.getD 1 0) (gP op 1))):=by show(a.bh++[UInt8.ofNat op]++dc (os.getD 0 0) (gP op 0))++dc (os.getD 1 0) (gP op 1)=_;simp
theorem B9 (a:Wr)(op:Nat)(os:List Nat):(bR a op os).kr=((a.kr||gT (os.getD 0 0) (gP op 0))||gT (os.getD 1 0) (gP op 1)):=rfl
section
variable {T:List ag} {q:Wr}
theorem Gd.add {op:Nat}{os:List Nat}(h:Gd T (bR q op os)):Gd T q/\gT (os.getD 0 0) (gP op 0)=false/\gT (os.getD 1 0) (gP op 1)=false:=by have d:=h.bk;have a:=h.ok;rw[gU] at d;rw[B9,UD,UD] at a;exact⟨⟨d,a.1.1⟩,a.1.2,a.2⟩
theorem Dh {s:ag}(h:a<+:T)(m:a.findIdx? (λx=>x==s)=some i):eU T s=i/\jq T (eU T) s:=by
 obtain⟨f,rfl⟩:=h;have e:(a++f).findIdx? (λx=>x==s)=some i:=by rw[W_,m];rfl
 have d:eU (a++f) s=i:=by unfold eU;rw[e];rfl
 obtain⟨j,n,_⟩:=Up.1 e;refine⟨d,⟨by rw[d];exact j,?_⟩⟩;rw[d,TO,TH j];exact UR.1 n
theorem Gd.cP {s:ag}(h:Gd T (q.cP s)):Gd T q/\q.aZ s=eU T s/\jq T (eU T) s:=by
 have a:=h.bk;have d:=h.ok;unfold Wr.cP at a d;unfold Wr.aZ;cases f:q.aY.findIdx? (λx=>x==s) with
 |some m=>rw[f] at a d;obtain⟨i,j⟩:=Dh a f;exact⟨⟨a,d⟩,i.symm,j⟩
 |none=>
  rw[f] at a d;have e:(q.aY++[s]).findIdx? (λx=>x==s)=some q.aY.length:=by rw[W_,f];simp[List.findIdx?_cons]
  obtain⟨i,j⟩:=Dh a e;exact⟨⟨(List.prefix_append _ _).trans a,d⟩,i.symm,j⟩
theorem wT {n w:Nat}(h:gT n w=false):n<256^w:=by unfold gT at h;have:=Yh h;omega
theorem DB:∀(a:List ag) (q:Wr),Gd T (a.foldl gd q)->Gd T q/\(a.foldl gd q).bh=q.bh++iB (eU T) a/\∀c∈a,jq T (eU T) c
 |[],q,h=>⟨h,by simp[iB],λc u=>by cases u⟩
 |c::f,q,h=>by
  obtain⟨m,i,o⟩:=DB f (gd q c) h;obtain⟨d,-,-⟩:=m.add;obtain⟨r,p,n⟩:=d.cP;refine⟨r,?_,λy j=> ?_⟩
  ·rw[Ux,i];unfold gd;rw[od,nj,p];unfold iB;rw[Ud,Ub];rfl
  ·rcases Ue.1 j with e|e
   ·rw[e];exact n
   ·exact o y e
theorem Dq (fl:dM)(name:ag):∀(a:List ag) (q:Wr),Gd T (a.foldl (fH fl (eU T name)) q)->Gd T q/\(a.foldl (fH fl (eU T name)) q).bh=q.bh++a.flatMap (th (bG fl) (eU T) name)/\∀n∈a,jq T (eU T) n/\bG fl n<256
 |[],q,h=>⟨h,by simp,λc E=>by cases E⟩
 |n::i,q,h=>by
  obtain⟨d,j,x⟩:=Dq fl name i (fH fl (eU T name) q n) h;unfold fH at d;obtain⟨f,-,-⟩:=d.add;obtain⟨z,-,-⟩:=f.add;obtain⟨p,D,r⟩:=z.cP;obtain⟨v,-,-⟩:=p.add;obtain⟨o,m,-⟩:=v.add;refine⟨o,?_,λy u=> ?_⟩
  ·rw[Ux,j];unfold fH;rw[od,od,nj,od,od,D,Ud,<-Ub];congr 1;simp only[Ub];rfl
  ·rcases Ue.1 u with e|e
   ·rw[e];exact⟨r,wT m⟩
   ·exact x y e
theorem Lt (fl:dM)(x:bP)(h:Gd T (ir fl q x.ph x.name x.aF)):Gd T q/\(ir fl q x.ph x.name x.aF).bh=q.bh++nI (bG fl) (eU T) x.ph x.name x.aF/\(x.ph=false->jq T (eU T) x.name)/\(x.ph=false->∀n∈x.aF,jq T (eU T) n/\bG fl n<256):=by
 unfold ir at h⊢;unfold nI;cases j:x.ph with
 |true=>rw[j] at h;simp only[Vn] at h⊢;obtain⟨d,-,-⟩:=h.add;exact⟨d,by rw[od];rfl,λe=>(by cases e),λe=>(by cases e)⟩
 |false=>
  rw[j] at h;simp only[Uj,Vk] at h⊢;have r:∀(f:List ag) (m:Nat) (a:Wr),Gd T (f.foldl (fH fl m) a)->Gd T a:=λf m=>by
   induction f with
   |nil=>exact λa i=>i
   |cons n D y=>intro a i;have o:=y _ i;unfold fH at o;exact o.add.1.add.1.cP.1.add.1.add.1
  obtain⟨d,u,v⟩:=(r _ _ _ h).add.1.cP;rw[u] at h⊢;obtain⟨-,z,p⟩:=Dq fl x.name x.aF _ h;refine⟨d,?_,λ_=>v,λ_=>p⟩;rw[z,od,nj,Ub];rfl
theorem MJ (a:List ag)(d:Nat)(h:Gd T (lY q a d)):Gd T q/\(lY q a d).bh=q.bh++(ei (jQ (eU T) a d).length++jQ (eU T) a d)/\(∀c∈a,jq T (eU T) c)/\(jQ (eU T) a d).length<65536/\d<256:=by
 have f:=h.ok;unfold lY tB at f;rw[UD] at f;have m:Gd T (fK (bR q 6 []) a d):=⟨h.bk,f.1⟩;unfold fK at m;obtain⟨o,p,-⟩:=m.add;obtain⟨u,x,v⟩:=DB a _ o;have n:(fK (bR q 6 []) a d).bh=q.bh++([6,0,0]++jQ (eU T) a d):=by unfold fK jQ;rw[od,x,od];simp only[Ub];rfl
 have j:(fK (bR q 6 []) a d).bh.length-(q.bh.length+1+2)=(jQ (eU T) a d).length:=by rw[n];simp only[TE,TK,T1];omega
 have i:=wT f.2;rw[j] at i;refine⟨u.add.1,?_,v,i,wT p⟩;unfold lY tB;simp only;rw[j,n];have r:(q.bh++([6,0,0]++jQ (eU T) a d)).take (q.bh.length+1)=q.bh++[6]:=by rw[aak,Uh (by omega),Vf];rfl
 have y:(q.bh++([6,0,0]++jQ (eU T) a d)).drop (q.bh.length+1+2)=jQ (eU T) a d:=by rw[List.drop_append,U_ (by omega),show q.bh.length+1+2-q.bh.length=3 by omega];rfl
 rw[r,y,Ub];rfl
end
def nX (a:List bP)(d:Nat):ag->Nat:=bG (cZ a (d+1)).2
def kV (F:Nat->ag->Nat)(K:ag->Nat):List bP->Nat->ag
 |[],_=>[]
 |x::d,a=>jU (F a) K x a++kV F K d (a+1)
theorem D9 (F:Nat->ag->Nat)(K:ag->Nat)(x:bP):∀(d:List bP) (a:Nat),kV F K (d++[x]) a=kV F K d a++jU (F (a+d.length)) K x (a+d.length)
 |[],a=>by simp[kV]
 |y::f,a=>by rw[UE,kV,kV,D9 F K x f (a+1),Ub,TK];rw[show a+1+f.length=a+(f.length+1) by omega]
structure vm (T:List ag)(F:Nat->ag->Nat)(x:bP)(i:Nat):Prop where
 k:xV T (eU T) x
 f:x.ph=false->∀n∈x.aF,F i n<256
 b:(jQ (eU T) x.aH i).length<65536
 n:i<256
theorem yu {T:List ag}(d:List bP):∀a,a<=d.length->Gd T (cZ d a).1->(cZ d a).1.bh=kV (nX d) (eU T) (d.take a) 0/\∀f (h:f<d.length),f<a->vm T (nX d) d[f] f
 |0,_,_=>⟨by simp[cZ,kV],λf _ p=>by omega⟩
 |a+1,M,h=>by
  have o:a<d.length:=by omega
  have e:=sk d a o;have ef:nX d a=bG (cL (cZ d a).2 d[a].name a):=by unfold nX;rw[e]
  rw[e] at h⊢;simp only at h⊢;obtain⟨r,G,y,H,D⟩:=MJ _ _ h;obtain⟨u,z,x,m⟩:=Lt _ d[a] r;obtain⟨E,v⟩:=yu d a (by omega) u;refine⟨?_,λf p J=> ?_⟩
  ·rw[G,z,E,TW o,D9,Um,VR (by omega),Ur,ef];unfold jU;rw[Ub]
  ·by_cases I:f<a
   ·exact v f p I
   ·obtain rfl:f=a:=by omega
    exact⟨⟨x,λi n j=>(m i n j).1,y⟩,λi n j=>by rw[ef];exact(m i n j).2,H,D⟩
theorem Fa {T:List ag}{F:Nat->ag->Nat}(i:T.length<=65536):∀(f:List bP) (d:Nat),(∀a (h:a<f.length),vm T F f[a] (d+a))->Rest T.length (kV F (eU T) f d)
 |[],_,_=>Rest.nil _
 |x::m,d,h=>by have j:=h 0 (Nat.succ_pos _);rw[kV];refine(Nk i j.k j.b).comp (Fa i m (d+1) λa n=> ?_);have:=h (a+1) (by simpa using n);rw[show d+(a+1)=d+1+a by omega] at this;exact this
theorem RV {F G:ag->Nat}{fl:Nat->Bool}{fs:List aI}{x:bP}(h:x.ph=true):pI F fl fs x=pI G fl fs x:=by unfold pI;rw[h];rfl
theorem RP {F K:ag->Nat}{x:bP}(a:Nat)(h:x.ph=true):jU F K x a=jU (λ_=>0) K x a:=by unfold jU nI;rw[h];rfl
theorem LY {T:List ag}{F:Nat->ag->Nat}{ef:List bL}{x:bP}{X:Wd}{fl:Nat->Bool}(m:T.length<=65536)(h:vm T F x i)(o:X.exit=0)(a b:ag)(j:Pl.Ends (a++(jU (F i) (eU T) x i++b)) T ef a.length [] fl X v):((lP ef (F i) i x (fl,X)).2.exit=0/\Pl.Ends (a++(jU (F i) (eU T) x i++b)) T ef (a.length+(jU (F i) (eU T) x i).length) [] (lP ef (F i) i x (fl,X)).1 (lP ef (F i) i x (fl,X)).2 v)\/((lP ef (F i) i x (fl,X)).2.exit≠0/\v=(lP ef (F i) i x (fl,X)).2):=by
 cases d:x.ph with
 |false=>exact DU m h.k (h.f d) h.n h.b o a b j
 |true=>rw[RP i d] at j⊢;have:=DU (F:=λ_=>0) m h.k (λ_ _=>by decide) h.n h.b o a b j;unfold lP at this⊢;rw[RV (G:=F i) d] at this;exact this
theorem Fq {T:List ag}{F:Nat->ag->Nat}{ef:List bL}(u:T.length<=65536):∀(m:List bP) (d:Nat) (fl:Nat->Bool) (X j:Wd) (a:ag),(∀f (h:f<m.length),vm T F m[f] (d+f))->X.exit=0->Pl.Ends (a++kV F (eU T) m d) T ef a.length [] fl X j->j=rY ef F m d (fl,X)
 |[],d,fl,X,j,a,_,_,i=>by rw[kV,Vs] at i;exact(i.stop λq=>by omega).symm
 |x::p,d,fl,X,j,a,h,r,i=>by
  have v:=h 0 (Nat.succ_pos _);rw[kV] at i;rw[rY,TP r];rcases LY u v r a _ i with⟨n,o⟩|⟨n,o⟩
  ·refine Fq u p (d+1) _ _ j (a++jU (F d) (eU T) x d) (λf z=> ?_) n ?_
   ·have:=h (f+1) (by simpa using z);rw[show d+(f+1)=d+1+f by omega] at this;exact this
   ·rw[TE,Ub];exact o
  ·rw[o];cases p with|nil=>rfl|cons y s=>rw[rY];exact(TJ n).symm
theorem GP (c:ag):∀T:List ag,(∀s∈T,s.length<65536)->Pl.aY T.length (cY T++c)=some (T,c)
 |[],_=>rfl
 |s::a,h=>by
  have j:=GP c a λy f=>h y (TX _ f);have i:=h s (TY ..);have e:cY (s::a)++c=dc s.length 2++(s++(cY a++c)):=by unfold cY;rw[Ud];simp
  have n:two (dc s.length 2++(s++(cY a++c))) 0=s.length:=by have:=om i 0 (s++(cY a++c));unfold two at this⊢;exact this
  rw[TK,e,Pl.aY,n,TP ⟨by simp[oE],by simp only[oE,TE,TK,T1];omega⟩];have m:(dc s.length 2++(s++(cY a++c))).drop (2+s.length)=cY a++c:=by rw[<-Ws];show(s++(cY a++c)).drop s.length=_;exact YG
  have d:((dc s.length 2++(s++(cY a++c))).drop 2).take s.length=s:=by show(s++(cY a++c)).take s.length=s;exact YF
  rw[m,d,j];rfl
variable {d:List bP}
theorem Qd (h:fB d=some j):∃T c,Pl.load j=some (T,c)/\kK j/\∀ef X,X.exit=0->jC c T ef X=rY ef (nX d) d 0 ((λ_=>false),X):=by
 unfold fB nA at h;generalize r:(cZ d d.length).1=w at h;split at h
 ·cases h
 ·rename_i v;cases h;rw[WH,UD] at v;obtain⟨f,x⟩:=v;unfold ma at f;rw[UD,UD,Us] at f;have E:w.aY.length<=1000:=by have:=Yh x;omega
  have m:∀s∈w.aY,s.length<65536:=λs m=>by have:=VG.1 f.2 s m;exact wT (by simpa using this)
  obtain⟨i,y⟩:=yu (T:=w.aY) d d.length ak (by rw[r];exact⟨List.prefix_refl _,f.1.1⟩);rw[r,Us] at i;have u:Pl.load (kX w.aY w.aY.length++w.bh)=some (w.aY,w.bh):=by
   unfold kX;rw[Us];have D:two ([80,49]++dc w.aY.length 2++cY w.aY++w.bh) 2=w.aY.length:=by have:=om (n:=w.aY.length) (by omega) 0 (cY w.aY++w.bh);unfold two at this⊢;rw[Ub,Ub];exact this
   unfold Pl.load;rw[D,TP ⟨by simp[oE],rfl,E⟩];have:([80,49]++dc w.aY.length 2++cY w.aY++w.bh).drop 4=cY w.aY++w.bh:=by rw[Ub,Ub];rfl
   rw[this];exact GP _ _ m
  have p:∀a (o:a<d.length),vm w.aY (nX d) d[a] (0+a):=λa o=>by rw[Ur];exact y a o o
  refine⟨w.aY,w.bh,u,⟨_,u,?_⟩,λef X G=> ?_⟩
  ·have:=Fa (by omega) d 0 p [] [];rw[Vs,UI] at this;simp only;rw[i];exact this ((uv (by simp)).2 ⟨λq z=>(by cases z),rfl,λ_ _=>rfl⟩)
  ·have H:=Pl.Ends.start w.bh w.aY ef X;refine Fq (by omega) d 0 _ X _ [] p G ?_;rw[UI,<-i];exact H
def tR (D:List ag)(fs:List aI)(x:bP):Bool:=x.ph||((Pl.look fs x.name).isNone||x.aF.any λn=>D.contains n||h_ fs x.name n)
def oP (ef:List bL):List bP->List ag->Wd->Wd
 |[],_,X=>X
 |x::a,D,X=>if X.exit=0 then(if tR D X.aX x then oP ef a (x.name::D) (gv ef x.aH X) else oP ef a D X) else X
def mJ:List bP->Nat->dM
 |[],_=>[]
 |x::d,a=>(x.name,a)::mJ d (a+1)
theorem DE (k:ag)(v:Nat):∀(fl:dM),(∀x∈fl,x.1≠k)->cL fl k v=fl++[(k,v)]
 |[],_=>rfl|x::a,h=>by have:=h x (TY ..);rw[cL,TJ (by simpa using this),DE k v a λy d=>h y (TX _ d)];rfl
theorem DJ:∀(d:List bP) (a:Nat) (x:ag×Nat),x∈mJ d a->x.1∈d.map (·.name)
 |[],_,_,h=>by cases h
 |y::f,a,x,h=>by
  rcases Ue.1 h with q|q
  ·rw[q];simp
  ·rw[Ug];exact TX _ (DJ f (a+1) x q)
theorem Cl (x:bP):∀(f:List bP) (a:Nat),mJ (f++[x]) a=mJ f a++[(x.name,a+f.length)]
 |[],a=>by simp[mJ]
 |y::d,a=>by rw[UE,mJ,mJ,Cl x d (a+1),TK,show a+1+d.length=a+(d.length+1) by omega];rfl
theorem Es (a:List bP)(i:(a.map (·.name)).Nodup):∀d,d<=a.length->(cZ a d).2=mJ (a.take d) 0
 |0,_=>by simp[cZ,mJ]
 |d+1,o=>by
  have f:d<a.length:=by omega
  rw[sk a d f];simp only;rw[Es a i d (by omega),TW f,Cl,Um,VR (by omega),Ur];refine DE _ _ _ λx m e=> ?_;have n:=DJ _ _ x m;have j:((a.take d++[a[d]]).map (·.name)).Nodup:=by rw[<-TW f];exact i.sublist ((List.take_sublist _ _).map _)
  rw[T',Vc] at j;exact j.2.2 x.1 n a[d].name (by simp) e
theorem GQ:∀(i:List bP) (f:Nat) (a:Nat) (h:a<i.length),(i.map (·.name)).Nodup->bG (mJ i f) i[a].name=f+a
 |[],_,a,h,_=>by cases h
 |x::d,f,0,_,_=>by unfold bG mJ;simp
 |x::d,f,a+1,h,j=>by
  rw[Ug,Wv] at j;have m:a<d.length:=by simpa using h
  have n:=GQ d (f+1) a m j.2;have o:(x.name==d[a].name)=false:=by rw[TQ];exact λe=>j.1 (by rw[e];exact Uc.2 ⟨d[a],TV m,rfl⟩)
  unfold bG at*;rw[mJ];simp only[TI];rw[UT,o];simp only;rw[n];omega
def Aq (a:List bP):Prop:=∀d (h:d<a.length),∀n∈a[d].aF,∃f,∃i:f<d,(a[f]'(by omega)).name=n
variable {M:ag->Bool}
theorem Fg {q:ag->Bool}:∀(l:List ag),(∀n∈l,M n=q n)->l.any M=l.any q
 |[],_=>rfl|x::a,h=>by rw[VI,VI,h x (TY ..),Fg a λy d=>h y (TX _ d)]
theorem zT (ef:List bL)(f:List bP)(m:(f.map (·.name)).Nodup)(z:Aq f):∀(i a:List bP) (fl:Nat->Bool) (D:List ag) (X:Wd),f=a++i->(∀d (h:d<a.length),fl d=D.contains a[d].name)->(∀q,a.length<=q->fl q=false)->(∀n∈D,n∈a.map (·.name))->rY ef (nX f) i a.length (fl,X)=oP ef i D X
 |[],_,_,_,_,_,_,_,_=>rfl
 |x::i,a,fl,D,X,p,G,v,y=>by
  rw[rY,oP];simp only;by_cases u:X.exit=0
  ·rw[TP u,TP u];have M:a.length<f.length:=by rw[p];simp
   have Q:f[a.length]=x:=by simp[p]
   have S:pI (nX f a.length) fl X.aX x=tR D X.aX x:=by
    unfold pI tR;congr 2;refine Fg _ λn r=> ?_;obtain⟨d,j,I⟩:=z a.length M n (by rw[Q];exact r);have R:d<(f.take (a.length+1)).length:=by rw[Um];omega
    have O:nX f a.length n=d:=by unfold nX;rw[Es f m _ (by omega)];have:=GQ (f.take (a.length+1)) 0 d R (m.sublist ((List.take_sublist _ _).map _));rw[YQ,I,Ur] at this;exact this
    have N:a[d].name=n:=by rw[<-I];congr 1;simp[p,List.getElem_append_left j]
    rw[O,G d j,N]
   have J:x.name∉a.map (·.name):=λZ=>by rw[p,T',Vc] at m;exact m.2.2 _ Z x.name (by simp) rfl
   unfold lP;simp only;rw[S];have H :f=(a++[x])++i:=by rw[p];simp
   cases hc:tR D X.aX x with
   |true=>
    rw[TP rfl,TP rfl];have:=zT ef f m z i (a++[x]) (λq=>if q=a.length then true else fl q) (x.name::D) (gv ef x.aH X) H (λd j=> ?_) (λq E=> ?_) (λn r=> ?_)
    ·rw[TE] at this;exact this
    ·rw[TE,T6] at j;by_cases e:d=a.length
     ·subst e;simp
     ·have o :d<a.length:=by omega
      rw[Vy o,TJ e,G d o];have V:(a[d].name==x.name)=false:=by rw[TQ];exact λq=>J (by rw[<-q];exact Uc.2 ⟨_,TV o,rfl⟩)
      rw[UL,V];rfl
    ·rw[TE,T6] at E;rw[TJ (by omega)];exact v q (by omega)
    ·rw[T'];rcases Ue.1 r with e|e
     ·rw[e];simp
     ·exact Ul _ (y n e)
   |false=>
    rw[TJ (by simp),TJ (by simp)];have:=zT ef f m z i (a++[x]) fl D X H (λd j=> ?_) (λq E=> ?_) (λn r=> ?_)
    ·rw[TE] at this;exact this
    ·rw[TE,T6] at j;by_cases e:d=a.length
     ·subst e;rw[v _ ak];have:¬x.name∈D:=λq=>J (y _ q);simp[this]
     ·have o :d<a.length:=by omega
      rw[Vy o];exact G d o
    ·rw[TE,T6] at E;exact v q (by omega)
    ·rw[T'];exact Ul _ (y n r)
  ·rw[TJ u,TJ u]
theorem Eu (h:fB d=some j)(a:(d.map (·.name)).Nodup)(p:Aq d):∃T c,Pl.load j=some (T,c)/\kK j/\∀ef X,X.exit=0->jC c T ef X=oP ef d [] X:=by obtain⟨T,c,u,f,i⟩:=Qd h;refine⟨T,c,u,f,λef X m=> ?_⟩;rw[i ef X m];exact zT ef d a p d [] _ [] X rfl (λv r=>by cases r) (λ_ _=>rfl) (λn o=>by cases o)
def ou (t:Wk)(n:ag):Nat:=(dj t.aQ n).getD 0
def lR (t:Wk)(fl:Nat->Bool)(fs:List aI)(x:Nr):Bool:=x.ph||((Pl.look fs x.name).isNone||x.aF.any λn=>fl (ou t n)||h_ fs x.name n)
def mx (ef:List bL)(t:Wk):List (Nat×List ag)->(Nat->Bool)->Wd->Wd
 |[],_,X=>X
 |a::d,fl,X=>if X.exit=0 then mx ef t d (λq=>if q=a.1 then lR t fl X.aX (bS t a.1).1 else fl q) (if lR t fl X.aX (bS t a.1).1=true then gv ef a.2 X else X) else X
theorem yt {t:Wk}(m:(t.aQ.map (·.1.name)).Nodup){k:Nat}(a:k<t.aQ.length):dj t.aQ (bS t k).1.name=some k:=by
 unfold dj;rw[Up,s_ a];refine⟨a,by simp,λd f=> ?_⟩;have i:d<t.aQ.length:=by omega
 intro e;have j :(t.aQ[d]).1.name=(t.aQ[k]).1.name:=by simpa using e
 refine(W8.1 m d k (by simpa using i) (by simpa using a) f) ?_;rw[Ut,Ut];exact j
theorem D7 {q:ag->Bool}:∀(l:List ag),(∀n∈l,M n=q n)->l.any M=l.any q
 |[],_=>rfl|x::a,h=>by rw[VI,VI,h x (TY ..),D7 a λy d=>h y (TX _ d)]
theorem Hd (ef:List bL)(b:Bk){t:Wk}(N:(t.aQ.map (·.1.name)).Nodup):∀(os:List (Nat×List ag)) (fl:Nat->Bool) (D:List ag) (X:Wd),(∀a∈os,a.1<t.aQ.length)->(os.map λa=>(bS t a.1).1.name).Nodup->(∀a∈os,(bS t a.1).1.name∉D)->(∀n d,dj t.aQ n=some d->fl d=D.contains n)->(∀a∈os,∀n∈(bS t a.1).1.aF,∃d,dj t.aQ n=some d)->
 mx ef t os fl X=oP ef (os.map λa=>qk (eC b (bS t a.1).1) a.2) D X
 |[],_,_,_,_,_,_,_,_=>rfl
 |a::u,fl,D,X,H,v,z,y,J=>by
  rw[Ug,mx,oP];by_cases r:X.exit=0
  ·rw[TP r,TP r];have G:=H a (TY ..);rw[Ug,Wv] at v;have R:tR D X.aX (qk (eC b (bS t a.1).1) a.2)=lR t fl X.aX (bS t a.1).1:=by
    unfold tR lR;show((bS t a.1).1.ph||((Pl.look X.aX (bS t a.1).1.name).isNone||(bS t a.1).1.aF.any λn=>D.contains n||h_ X.aX (bS t a.1).1.name n))=_;congr 2;refine D7 _ λn V=> ?_;obtain⟨d,f⟩:=J a (TY ..) n V;have:ou t n=d:=by unfold ou;rw[f];rfl
    rw[this,y n d f]
   rw[R];have Z:=yt N G;have O:=z a (TY ..);have M:∀(o :List ag) (p :Wd),(∀n,n∈o ↔n∈D\/(lR t fl X.aX (bS t a.1).1=true/\n=(bS t a.1).1.name))->mx ef t u (λq=>if q=a.1 then lR t fl X.aX (bS t a.1).1 else fl q) p =oP ef (u.map λa=>qk (eC b (bS t a.1).1) a.2) o p :=λo p m=>by
    refine Hd ef b N u _ o p (λq j=>H q (TX _ j)) v.2 (λq j e=> ?_) (λn d f=> ?_) (λq j=>J q (TX _ j))
    ·rcases(m _).1 e with e|⟨-,e⟩
     ·exact z q (TX _ j) e
     ·exact v.1 (e▸Uc.2 ⟨q,j,rfl⟩)
    ·have I:∀l:List ag,l.contains n=decide (n∈l):=λl=>by
      rw[U3,U6,aaV]
     show(if d=a.1 then lR t fl X.aX (bS t a.1).1 else fl d)=o.contains n;rw[I];by_cases x:d=a.1
     ·subst x;obtain⟨aa,Q⟩:=uq f;have E:n=(bS t a.1).1.name:=by rw[s_ G];exact Q.symm
      rw[TP rfl];cases i:lR t fl X.aX (bS t a.1).1 with
      |true=>exact(Uz ((m n).2 (.inr ⟨i,E⟩))).symm
      |false=>
       refine(UA λe=> ?_).symm;rcases(m n).1 e with e|⟨e,-⟩
       ·exact O (E▸e)
       ·rw[i] at e;cases e
     ·rw[TJ x,y n d f,I];have S:n≠(bS t a.1).1.name:=λe=>by rw[e,Z] at f;exact x (UX f).symm
      congr 1;rw[eq_iff_iff];constructor
      ·intro e;exact(m n).2 (.inl e)
      ·intro e;rcases(m n).1 e with e|⟨-,e⟩
       ·exact e
       ·exact absurd e S
   cases i:lR t fl X.aX (bS t a.1).1 with
   |true=>
    rw[TP rfl,TP rfl];have:=M ((bS t a.1).1.name::D) (gv ef a.2 X) (λn=>by
     rw[Ue,i];constructor
     ·rintro(e|e)
      ·exact .inr ⟨rfl,e⟩
      ·exact .inl e
     ·rintro(e|⟨-,e⟩)
      ·exact .inr e
      ·exact .inl e)
    rw[i] at this;exact this
   |false=>rw[TJ ZK,TJ ZK];have:=M D X (λn=>by rw[i];simp);rw[i] at this;exact this
  ·rw[TJ r,TJ r]
theorem RJ (ef:List bL)(b:Bk){t:Wk}(u:(t.aQ.map (·.1.name)).Nodup)(o:∀j∈t.aW,j<t.aQ.length)(E:((fQ b t).map (·.name)).Nodup)(v:∀y∈fQ b t,∀n∈y.aF,∃m∈fQ b t,m.name=n)(O:f.length=t.aW.length)(X:Wd):
 mx ef t (t.aW.zip f) (λ_=>false) X=oP ef (kM b t f) [] X:=by
 have I:kM b t f=(t.aW.zip f).map λa=>qk (eC b (bS t a.1).1) a.2:=by unfold kM fQ;rw[List.zipWith_map_left,List.zip,List.map_zipWith]
 rw[I];have p:∀a∈t.aW.zip f,a.1∈t.aW:=λa d=>(List.of_mem_zip d).1;have G:((t.aW.zip f).map λa=>(bS t a.1).1.name)=(fQ b t).map (·.name):=by
  have:((t.aW.zip f).map λa=>(bS t a.1).1.name)=((t.aW.zip f).map Prod.fst).map λj=>(bS t j).1.name:=by rw[WT];rfl
  rw[this,List.map_fst_zip (by omega)];unfold fQ;rw[WT];rfl
 refine Hd ef b u _ _ _ X (λa d=>o _ (p a d)) (by rw[G];exact E) (λa _ e=>(by cases e)) (λn N _=>rfl) (λa d n M=> ?_);obtain⟨m,z,D⟩:=v (eC b (bS t a.1).1) (Uc.2 ⟨a.1,p a d,rfl⟩) n M;obtain⟨i,J,rfl⟩:=Uc.1 z;have x:=o i J;have r:=yt u x;have H:(bS t i).1.name=n:=D;rw[H] at r;exact⟨i,r⟩
theorem J0 {W:ax}{L P:Nat}{r:ay}{c:List ay}(h:W.ownsRow L 206 6 r d.length c)(Z:jL W L d c)(aa:L<=W.heap.size)(i:∀x∈d,tP P x)(hP:P<=80000)(H:0<d.length)(R:d.length<=100):
 Calls prog 67 #[r] W λe W'=>e= .returned (pj (fB d))/\Below W.heap.size W W' :=by
 have hz:=Hz d i;have hm:=U4 (P+100*(P+2)+1001002) R;rcases h.2 with⟨_,h2⟩|⟨g,cap,ab,p,_,V,-⟩
 ·omega
 ·have o :=h;rw[p] at o;rw[p];refine MM d (some ⟨g,0,none⟩) cap g 0 W (λ_=>rfl) (sG V) (λy hi=> ?_) H (by omega) (λx v=>⟨TT (i x v).aF (by decide),TT (i x v).aH (by decide)⟩) (by omega);obtain⟨a,M,q2⟩:=jL.at d c Z y hi;obtain⟨an,N,am,Q,E,I,no,O,co,D,J,rfl,G,z⟩:=M;refine⟨an,N,am,Q,E,I,no,O,co,D,J,λf u n=> ?_,λq=> ?_,λq=> ?_⟩
  ·have S:f<6:=by
    rcases Yj f 6 with q|q
    ·exact q
    ·rw[WA (by show 6<=f;exact q)] at n;cases n
   rw[Ur];exact gx o (y*6+f) u ((q2 f S).trans n)
  ·obtain⟨m,j,e3⟩:=G q;exact⟨m,T7 j aa,e3⟩
  ·obtain⟨m,j,_,e4⟩:=z q;exact⟨m,j,e4⟩
def uV (fs:List aI)(d goal:ag)(W:ax)(e:Ending)(W' :ax):Prop:=∃a,g_ fs d goal a/\e= .returned (.tuple #[.string ⟨a.1.toArray⟩,.int .i64 (a.2.1:Int),.int .i64 (a.2.2:Int)])/\Below W.heap.size W W'
theorem Gz {M:Nat}{fs:List aI}(a:∀i g,Pl.look fs i=some g->g.aT.length+1<=M/\g.aT.length<=1073741824)(d:ag):∃k,Ok (cI fs d).2.2 k/\k<=101*M:=by
 unfold cI;split
 ·exact⟨0,A5,TS _⟩
 ·rename_i g f;obtain⟨⟨k,m,j⟩,-,-⟩:=zJ a 3 il 0 g.aT A5 (a d g f).1 (a d g f).2;refine⟨k,m,?_⟩;have e:il.inc=0:=rfl;rw[e] at j;omega
theorem Kn (d:List aI)(f goal:ag)(a:Option Addr)(cap b o M:Nat)(W:ax)(x:0<d.length->a=some ⟨b,o,none⟩)(E:dA W b o d)(v:b<W.heap.size)(S:d.length<=8388608)(z:c_ W)(D:∀J g,Pl.look (d.foldl Pl.bp []) J=some g->g.aT.length+1<=M/\g.aT.length<=1073741824)(I:101*M<=4294967296)(r:(cI (d.foldl Pl.bp []) f).1≠0):
 Calls prog 40 #[.slice a d.length cap,.string ⟨f.toArray⟩,.string ⟨goal.toArray⟩] W λe W'=>uV (d.foldl Pl.bp []) f goal W e W' :=by
 have p:=aB (BU d [] a none cap b o 0 W.heap.size b 0 0 W x E v S (λq=>(by cases q)) ⟨v,λaa h=>(by cases h)⟩ ak (by decide));rw[T1] at p;have y:Hid (∀i j bf bi,PW i j bf bi (.slice none 0 0) [] (d.foldl Pl.bp []) 0->Below W.heap.size W i->Calls prog 64 #[.pointer (some ⟨j,0,none⟩),.string ⟨f.toArray⟩] i λe W'=>e= .returned (.tuple #[.pointer none,.int .i64 ((cI (d.foldl Pl.bp []) f).1:Int),.int .i64 ((cI (d.foldl Pl.bp []) f).2.1:Int)])/\Below W.heap.size W W'):=λi j bf bi n m=>by refine(Br j f i n (z.aE m) D I).mono ?_;rintro e V ⟨R,N,-⟩;exact⟨N r,m.tr R⟩
 have O:Hid (g_ (d.foldl Pl.bp []) f goal ([],(cI (d.foldl Pl.bp []) f).1,(cI (d.foldl Pl.bp []) f).2.1)):= .inl ⟨r,rfl⟩;have Z:(((cI (d.foldl Pl.bp []) f).1:Int) !=0)=true:=by rw[UY];omega
 clear x E z D r;generalize (cI (d.foldl Pl.bp []) f).1=er at*;generalize (cI (d.foldl Pl.bp []) f).2.1=ln at*;generalize d.foldl Pl.bp []=fs at*;go_enter func40,ntmps40;go_wp2_with (first|(go_at_call 61;refine p.u.mono ?_;clear p;rintro e i ⟨j,bf,bi,rfl,n,m,-,-,-⟩;have H:=aB (y.u i j bf bi n m);clear n m y)|(go_at_call 64;refine H.u.mono ?_;clear H;rintro e V ⟨rfl,G⟩;have Q:=aB G;clear G)|fail)
 go_ret3
 exact⟨_,O.u,rfl,Q.u⟩
theorem zO {N:ag->Nv} :∀(f:List (ag×Nat)) (k:Nat) (a:List ag) (er ln:Nat),jw N u f k a (.inl (er,ln))->er≠0
 |[],_,_,_,_,h=>by exact absurd h (λq=>by unfold jw at q;cases q)
 |c::d,k,a,er,ln,⟨i,_,h⟩=>by
  split at h
  ·rename_i q;cases h;exact q
  ·split at h
   ·exact zO d k a er ln h
   ·exact zO d _ _ er ln h
theorem zq {N:ag->Nv}:∀(f:List cA) (k:Nat) (a:List bP) (er ln:Nat),iV N f k a (.inl (er,ln))->er≠0
 |[],_,_,_,_,h=>by exact absurd h (λq=>by unfold iV at q;cases q)
 |x::i,k,a,er,ln,⟨G,d,h⟩=>by
  cases G with
  |inl e=>have j:(Sum.inl (er,ln):(Nat×Nat)⊕(Nat×List bP))= .inl e:=h;cases j;exact zO _ _ _ _ _ d
  |inr m=>exact zq i _ _ er ln h
def Ag (N:ag->Nv)(i:List cA)(W:ax)(e:Ending)(W' :ax):Prop:=
 ∃(f:ay) (er ln:Nat),e= .returned (.tuple #[f,.int .i64 (er:Int),.int .i64 (ln:Int)])/\Below W.heap.size W W' /\∃a,iV N i 0 [] a/\
  ((er≠0/\rh a ([],er,ln))\/(er=0/\∃d:Option ag,rh a (match d with|none=>([],5,0)|some j=>(j,0,0))/\Calls prog 67 #[f] W' λe m=>e= .returned (pj d)/\Below W'.heap.size W' m))
theorem LG {W:ax}{L P:Nat}{vv:ay}{qv:List Vq}{f:NL}(h:W.ownsRow L 197 5 vv qv.length (qv.flatMap lj))(R:∀q∈qv,kA W q)(Q:bC W i (iE f))(v:kT f)(u:c_ W)(h0:0<qv.length)(hl:qv.length<=100)(Z:∀x∈qv.map Vq.nd,A0 x)(S:P<=80000)(M:∀x∈qv.map Vq.nd,x.name.length<=P/\x.aF.length<=100/\∀n∈x.aF,n.length<=P):
 Calls prog 66 #[vv,.map (some i)] W λe W'=>Ag (cW f) (qv.map Vq.nd) W e W' :=by
 rcases h.2 with⟨_,h2⟩|⟨g,cap,aa,D,_,J,-⟩
 ·omega
 ·rw[D] at h⊢;have p:=KI (qv.map Vq.nd) (some ⟨g,0,none⟩) cap g 0 i f W (λ_=>rfl) (sG J) (λV N=>Nf h R V N) Q v u (by rw[TR];omega) Z;rw[TR] at p;refine p.mono ?_;rintro e w2 ⟨E,a,j,d⟩
  match E,a,d with
  | .inl (er,ln),a,d=>exact⟨_,er,ln,d,j,_,a,.inl ⟨zq _ _ _ _ _ a,rfl⟩⟩
  | .inr (k,r),a,d=>
   obtain⟨z,y⟩:=vK (P:=P) _ _ _ _ _ a M (λx O=>(by cases O));rw[T1,TR,Ur] at z;rcases d with⟨m,o⟩|⟨m,I,c,o,G,H⟩
   ·exact⟨_,5,0,o,j,_,a,.inl ⟨by decide,.inl ⟨m,rfl⟩⟩⟩
   ·exact⟨I,0,0,o,j,_,a,.inr ⟨rfl,fB r,.inr ⟨m,rfl⟩,J0 G H j.size y S (by omega) (by omega)⟩⟩
theorem yz {s:St}{fs:List aI}{us:List (Nat×List ag)}:∀(n m:Nat) (d a:Nat×cE),dL s fs us n d=some a->dL s fs us (n+m) d=some a
 |0,m,d,a,h=>by
  rw[dL] at h;split at h
  ·rename_i q;cases m with
   |zero=>rw[dL,TP q];exact h
   |succ m=>rw[Ur,dL,TP q];exact h
  ·cases h
 |n+1,m,d,a,h=>by
  rw[dL] at h;rw[show n+1+m=(n+m)+1 by omega,dL];split
  ·rename_i q;rw[TP q] at h;exact h
  ·rename_i q;rw[TJ q] at h;exact yz n m _ a h
theorem gM.kC {s:St}{fs:List aI}{us:List (Nat×List ag)}{q:Nat×cE}(h:gM s fs us o y)(g:gM s fs us o q):y=q:=by obtain⟨n,d⟩:=h;obtain⟨m,f⟩:=g;have i:=yz n m o y d;have a:=yz m n o q f;rw[abd,i] at a;cases a;rfl
theorem zh {N:ag->Nv} :∀(i:List (ag×Nat)) (k:Nat) (d:List ag) (a Q:(Nat×Nat)⊕(Nat×List ag)),jw N u i k d a->jw N u i k d Q->a=Q
 |[],k,d,a,Q,h,g=>by have n :a= .inr (k,d):=h;have p :Q= .inr (k,d):=g;rw[n,p]
 |c::j,k,d,a,Q,⟨r,o,h⟩,⟨q,m,g⟩=>by
  obtain rfl:=o.kC m;split at h
  ·rename_i e;rw[TP e] at g;rw[h,g]
  ·rename_i e;rw[TJ e] at g;split at h
   ·rename_i f;rw[TP f] at g;exact zh j _ _ a Q h g
   ·rename_i f;rw[TJ f] at g;exact zh j _ _ a Q h g
theorem Ew {N:ag->Nv}:∀(f:List cA) (k:Nat) (d:List bP) (a Q:(Nat×Nat)⊕(Nat×List bP)),iV N f k d a->iV N f k d Q->a=Q
 |[],k,d,a,Q,h,g=>by have j :a= .inr (k,d):=h;have o :Q= .inr (k,d):=g;rw[j,o]
 |x::n,k,d,a,Q,⟨G,m,h⟩,⟨K,i,g⟩=>by
  obtain rfl:=zh _ _ _ _ _ m i;cases G with
  |inl e=>exact(show a= .inl e from h).trans (show Q= .inl e from g).symm
  |inr p=>exact Ew n _ _ a Q h g
variable {H:(Nat×Nat)⊕(Nat×List bP)}{p:ag×Nat×Nat}
theorem Lx {q:ag×Nat×Nat}(h:rh H p)(g:rh H q):p=q:=by
 cases H with
 |inl e=>exact(show p=_ from h).trans (show q=_ from g).symm
 |inr j=>
  rcases h with⟨i,f⟩|⟨i,f⟩
  ·rcases g with⟨d,a⟩|⟨d,a⟩
   ·rw[f,a]
   ·omega
  ·rcases g with⟨d,a⟩|⟨d,a⟩
   ·omega
   ·rw[f,a]
theorem L5 {s:St}{fs:List aI}{g:ag}{q:ag×Nat×Nat}(h:s5 s fs g p)(k:s5 s fs g q):p=q:=by
 rcases h with⟨n,D⟩|⟨n,D,E⟩|⟨n,D,x,E,G⟩
 ·rcases k with⟨a,i⟩|⟨a,i,m⟩|⟨a,i,y,m,r⟩
  ·rw[D,i]
  ·exact absurd n a
  ·exact absurd n a
 ·rcases k with⟨a,i⟩|⟨a,i,m⟩|⟨a,i,y,m,r⟩
  ·exact absurd a n
  ·rw[E,m]
  ·omega
 ·rcases k with⟨a,i⟩|⟨a,i,m⟩|⟨a,i,y,m,r⟩
  ·exact absurd a n
  ·omega
  ·obtain rfl:=E.kC m;rcases G with⟨o,u⟩|⟨o,u,v⟩|⟨o,u,I,v,H⟩
   ·rcases r with⟨d,f⟩|⟨d,f,j⟩|⟨d,f,Q,j,z⟩
    ·rw[u,f]
    ·exact absurd d o
    ·exact absurd d o
   ·rcases r with⟨d,f⟩|⟨d,f,j⟩|⟨d,f,Q,j,z⟩
    ·exact absurd o d
    ·rw[v,j]
    ·omega
   ·rcases r with⟨d,f⟩|⟨d,f,j⟩|⟨d,f,Q,j,z⟩
    ·exact absurd o d
    ·omega
    ·obtain rfl:=Ew _ _ _ _ _ v j;exact Lx H z
theorem g_.kC {fs:List aI}{goal:ag}{q:ag×Nat×Nat}(h:g_ fs j goal p)(g:g_ fs j goal q):p=q:=by
 rcases h with⟨i,f⟩|⟨i,f⟩
 ·rcases g with⟨a,d⟩|⟨a,d⟩
  ·rw[f,d]
  ·exact absurd a i
 ·rcases g with⟨a,d⟩|⟨a,d⟩
  ·exact absurd i a
  ·exact L5 f d
theorem g_.dS {fs:List aI}{goal:ag}(h:g_ fs j goal p)(a:p.2.1=0):p.2.2=0/\∃q k v,gM (cI fs j).2.2 fs (cB (cI fs j).2.2 fs (cI fs j).2.2.bD) (dB (cI fs j).2.2 fs (cB (cI fs j).2.2 fs (cI fs j).2.2.bD) gi (fX (cI fs j).2.2 goal)) q/\q.1=0/\q.2.cD.length<=100/\(fX (cI fs j).2.2 goal).length<=2000/\iV (cW (cI fs j).2.2.aV) q.2.cD 0 [] (.inr (k,v))/\k<=500/\fB v=some p.1:=by
 rcases h with⟨z,H⟩|⟨z,⟨y,m⟩|⟨y,m,r⟩|⟨y,m,x,r,G⟩⟩
 ·rw[H] at a;exact absurd a z
 ·rw[m] at a;cases a
 ·rw[r] at a;cases a
 ·rcases G with⟨n,f⟩|⟨n,f,i⟩|⟨n,f,J,i,E⟩
  ·rw[f] at a;exact absurd a n
  ·rw[i] at a;cases a
  ·cases J with
   |inl e=>have I:p=([],e.1,e.2):=E;rw[I] at a;exact absurd a (zq _ _ _ _ _ i)
   |inr u=>
    rcases E with⟨D,d⟩|⟨D,d⟩
    ·rw[d] at a;cases a
    ·cases o:fB u.2 with
     |none=>rw[o] at d;rw[d] at a;cases a
     |some t=>rw[o] at d;refine⟨by rw[d],x,u.1,u.2,r,n,f,m,i,D,by rw[o,d]⟩
theorem g_.none {fs:List aI}{goal:ag}(h:g_ fs j goal p)(n:p.2.1≠0):p.1=[]:=by
 rcases h with⟨D,z⟩|⟨D,⟨o,f⟩|⟨o,f,r⟩|⟨o,f,x,r,y⟩⟩
 ·rw[z]
 ·rw[f]
 ·rw[r]
 ·rcases y with⟨u,d⟩|⟨u,d,m⟩|⟨u,d,G,m,v⟩
  ·rw[d]
  ·rw[m]
  ·cases G with
   |inl e=>rw[show p=([],e.1,e.2) from v]
   |inr H=>
    rcases v with⟨E,a⟩|⟨E,a⟩
    ·rw[a]
    ·cases i:fB H.2 with
     |none=>rw[i] at a;rw[a]
     |some t=>rw[i] at a;rw[a] at n;exact absurd rfl n
theorem QR {s:St}{fs:List aI}{g:ag}{k P:Nat}(m:Ok s k)(r:2000<=P)(o:∀f∈fs,f.aJ.length<=P)(p:g.length<=2000):∀y∈pD s fs g,y.length<=P:=λy n=>by
 rcases Ue.1 n with q|q
 ·rw[q];omega
 ·rcases T4.1 q with q|q
  ·obtain⟨z,a,i⟩:=WJ.1 q;obtain⟨d,j,rfl⟩:=Uc.1 a;have:=(m.rs d j).nw y i;omega
  ·rcases T4.1 q with q|q
   ·obtain⟨z,a,i⟩:=WJ.1 q;obtain⟨d,j,rfl⟩:=Uc.1 a;have:=(m.rs d j).tw y i;omega
   ·obtain⟨f,a,rfl⟩:=Uc.1 q;exact o f a
def qJ (s:St)(fs:List aI)(g:ag)(P:Nat):Prop:=g.length<=2000->∀a,gM s fs (cB s fs s.bD) (dB s fs (cB s fs s.bD) gi g) a->a.1=0->a.2.cD.length<=100->∀x∈a.2.cD,x.name.length<=P
def Hv (s:St)(fs:List aI)(g:ag)(j:Nat)(W:ax)(e:Ending)(W' :ax):Prop:=
 ∃(a:ay) (er:Nat),e= .returned (.tuple #[a,.int .i64 (er:Int)])/\Below W.heap.size W W' /\
  ((er≠0/\s5 s fs g ([],er,0))\/(er=0/\∃f,(∀i d,iV (cW s.aV) f 0 [] i->rh i d->s5 s fs g d)/\Calls prog 66 #[a,.map (some j)] W' λe m=>Ag (cW s.aV) f W' e m))
theorem L6 {W:ax}{c:Ad}{rb:Nat->Nat}{s:St}{vp:ay}{l:df}{bf bi:Nat}{ve:ay}{ef:List bL}{fs:List aI}{aP:Int}(v:ag)(k P:Nat)(z:BM W c rb s vp l)(hp:PW W c.bx bf bi ve ef fs aP)(I:c_ W)(D:Ok s k)(hk:k<=2000000000)(R:lJ s)(H:mT s)(ae:fs.length<=4000000000)(ad:P<=80000)(O:∀f∈fs,f.aJ.length<=8388608)(aa:qJ s fs (fX s v) P):
 Calls prog 65 #[.pointer (some ⟨c.bb,0,none⟩),.pointer (some ⟨c.bx,0,none⟩),.string ⟨v.toArray⟩] W λe W'=>Hv s fs (fX s v) c.nm W e W' :=by
 have M:(fX s v).length<=2000->tN s fs (cB s fs s.bD) (pD s fs (fX s v)) 256002000:=λh=>Qs D R z.ol z.pl ae (λf hf=>TT (O f hf) (by omega)) (by omega);refine(MH v k (λ_ Q=>PX (M Q) _ (TY ..)) z hp I D).mono ?_;rintro e w2 ⟨p,⟨r,d⟩|⟨r,d,j⟩|⟨r,d,u,j,⟨i,o⟩|⟨i,o,G⟩|⟨i,o,vv,qv,G,q7,q8,E⟩⟩⟩
 ·exact⟨_,8,d,p,.inl ⟨by decide,.inl ⟨r,rfl⟩⟩⟩
 ·exact⟨_,5,j,p,.inl ⟨by decide,.inr (.inl ⟨r,d,rfl⟩)⟩⟩
 ·exact⟨_,u.1,o,p,.inl ⟨i,.inr (.inr ⟨r,d,u,j,.inl ⟨i,rfl⟩⟩)⟩⟩
 ·exact⟨_,5,G,p,.inl ⟨by decide,.inr (.inr ⟨r,d,u,j,.inr (.inl ⟨i,o,rfl⟩)⟩)⟩⟩
 ·have J:=(uC j i).1;have N :=aa d u j i o;have Z:=OT (M d) (TY ..) j i;have ab:=QR D (P:=8388608) (by omega) O d;have aU:=PU j i;have ah:qv.length=u.2.cD.length:=by rw[<-E,TR]
  have ac:∀x∈cB s fs s.bD,x.1<s.aD.length:=λx m=>by unfold cB at m;obtain⟨af,hi,rfl⟩:=Uc.1 m;exact z.pl af (Vt.1 hi).1
  refine⟨vv,0,G,p,.inr ⟨rfl,qv.map Vq.nd,λV t a1 a2=> .inr (.inr ⟨r,d,u,j,.inr (.inr ⟨i,o,V,by rw[<-E];exact a1,a2⟩)⟩),?_⟩⟩;refine LG (P:=P) q7 q8 (z.aE p).aV D.lB (I.aE p) (by omega) (by omega) (λx m=> ?_) ad (λx m=> ?_)
  ·rw[E] at m;exact NV D hk H z.ol ac 8388608 ak ab Z J o m
  ·rw[E] at m;obtain⟨S,z2⟩:=sr H J o m;refine⟨N x m,S,λn hn=> ?_⟩;obtain⟨y,a,b⟩:=z2 n hn;rw[<-b];exact N y a
theorem BK (c:UInt8):∀(f:Nat) (s:ag),Lib.countFrom [c] f s<=s.count c
 |0,_=>TS _
 |f+1,s=>by
  rw[Lib.countFrom];split
  ·exact TS _
  ·rename_i h;rcases Lib.index_spec s [c] with⟨j,_⟩|⟨d,j,_,a,_⟩
   ·rw[j] at h;exact absurd rfl h
   ·have i:=BK c f (s.drop ((Lib.index s [c]).toNat+[c].length));rw[j] at i⊢;simp only[ZO,TK,T1,Ur] at i⊢;have o:∃t,s.drop d=c::t:=by
     unfold Lib.occAt at a;cases n:s.drop d with
     |nil=>rw[n] at a;cases a
     |cons x t=>rw[n] at a;simp only[List.isPrefixOf,X0,UR] at a;exact⟨t,by rw[a]⟩
    obtain⟨t,m⟩:=o;have r:s.drop (d+1)=t:=by rw[<-Ws,m];rfl
    have p:s.count c=(s.take d).count c+(s.drop d).count c:=by rw[<-ZV,VW]
    rw[m,aa7] at p;rw[r] at i⊢;omega
theorem BT (a d:ag):∀(k:Nat) (s:ag),(Lib.replaceK a d k s).length<=s.length+k*d.length
 |0,s=>by rw[Lib.replaceK];omega
 |k+1,s=>by
  rw[Lib.replaceK];split
  ·omega
  ·have i:=BT a d k (s.drop ((Lib.index s a).toNat+a.length));have f:(s.drop ((Lib.index s a).toNat+a.length)).length+(s.take (Lib.index s a).toNat).length<=s.length:=by rw[UM,Um];omega
   rw[TE,TE,VO];omega
theorem OD {n stem:ag}(h:iT n=false):(dJ n stem).length<=n.length+stem.length:=by
 unfold iT Lib.countByte at h;have f:=Yh h;unfold dJ Lib.replaceAll Lib.replace;split
 ·omega
 ·have a:Lib.replaceNum n [37] (-1)<=1:=by
   unfold Lib.replaceNum;rw[TP (.inl (by decide))];exact TT (BK 37 _ n) (by omega)
  have d:=BT [37] stem (Lib.replaceNum n [37] (-1)) n;have i:=U4 stem.length a;omega
structure nU (s:St):Prop where
 mq:∀r∈s.aD,∀n∈r.nd,iT n=false
 ol:∀name,∀i∈s.of name,i<s.aD.length
 pl:∀i∈s.bD,i<s.aD.length
theorem Fk (d:Nat)(n:ag):∀(i:List ag) (s:St),∀a∈(i.foldl (dH d) s).of n,a∈s.of n\/a=d
 |[],s,a,h=> .inl h
 |t::j,s,a,h=>by
  rw[Ux] at h;rcases Fk d n j (dH d s t) a h with q|q
  ·have f :a∈mI s.of t (s.of t++[d]) n:=q;unfold mI at f;split at f
   ·rename_i e;rcases T4.1 f with z|z
    ·exact .inl (by first|(rw [e];exact z)|(rw [<-e];exact z))
    ·exact .inr (TL.1 z)
   ·exact .inl f
  ·exact .inr q
theorem nU.add {s:St}(h:nU s)(i j:List ag)(v:∀n∈j,iT n=false):nU (bp s i j).2:=by
 have r:∀m∈s.aD++[(⟨i,bJ j [],[]⟩:Rl)],∀n∈m.nd,iT n=false:=λm u n o=>by
  rcases T4.1 u with q|q
  ·exact h.mq m q n o
  ·rw[TL.1 q] at o;rcases(nh j []).2 n o with z|z
   ·exact v n z
   ·cases z
 unfold bp;split
 ·exact⟨h.mq,h.ol,h.pl⟩
 ·split
  ·refine⟨r,λname d a=> ?_,λd a=> ?_⟩
   ·have:=h.ol name d a;simp only[TE,TK,T1];omega
   ·rcases T4.1 a with q|q
    ·have:=h.pl d q;simp only[TE,TK,T1];omega
    ·rw[TL.1 q];simp
  ·have key:∀f:ag,nU (i.foldl (dH s.aD.length) {s with aD:=s.aD++[⟨i,bJ j [],[]⟩],first:=f}):=λf=>by
    obtain⟨_,p,x,_⟩:=oW s.aD.length i {s with aD:=s.aD++[⟨i,bJ j [],[]⟩],first:=f};refine⟨by rw[p];exact r,λname d a=> ?_,λd a=> ?_⟩
    ·rw[p];simp only[TE,TK,T1];rcases Fk _ name i _ d a with q|q
     ·have:=h.ol name d q;omega
     ·omega
    ·rw[p];rw[x] at a;have:=h.pl d a;simp only[TE,TK,T1];omega
   unfold lu;simp only;split
   ·exact key _
   ·exact key s.first
theorem Pn:pf nU where
 assign s l h:=by unfold gW;split<;>exact⟨h.mq,h.ol,h.pl⟩
 sF s op l h:=by
  unfold fT;split
  ·exact h
  ·split
   ·exact h
   ·rename_i u _ o r;split
    ·exact h
    ·refine⟨λm p n d=> ?_,λname j f=> ?_,λj f=> ?_⟩
     ·rcases VK p with q|q
      ·exact h.mq m q n d
      ·rw[q] at d;exact h.mq o (Vw r) n d
     ·have:=h.ol name j f;simpa using this
     ·have:=h.pl j f;simpa using this
 jz s l h:=by
  unfold fW;split
  ·exact h
  ·split
   ·exact h
   ·split
    ·exact h
    ·rename_i i;split
     ·exact h
     ·refine nU.add (s:={s with n:=s.n+1}) ⟨h.mq,h.ol,h.pl⟩ _ _ λn d=> ?_;unfold kp at i;split at i
      ·exact absurd rfl i
      ·rename_i q;have:¬(bH (dq s.aV l.right).bE).any iT=true:=λe=>q (.inr (.inr e));rw[WH] at this;have:=VG.1 this n d;simpa using this
 rR s a b h:=⟨h.mq,h.ol,h.pl⟩
theorem O9 (fs:List aI)(d:ag):nU (cI fs d).2.2:=yw Pn ⟨λ_ f=>(by cases f),λ_ _ a=>(by cases a),λ_ a=>(by cases a)⟩ d
section
variable {s:St} {fs:List aI} {k:Nat}
theorem Om (r:Ok s k)(Q:lJ s)(v:nU s){name y:ag}(j:y∈(ea s fs (cB s fs s.bD) name).1.aF):y.length<=2000\/((∃f∈fs,f.aJ=y)/\y.length<=name.length+2000):=by
 have I:∀z∈fu s (s.of name),z.length<=2000:=λz d=>by
  unfold fu at d;split at d
  ·rename_i i;have E:=v.ol name;generalize s.of name=xs at*
   match xs,i,E,d with
   |[D],_,E,d=>exact(r.rs _ (pY (E D (TY ..)))).nw z d
  ·rcases(nh _ _).2 z d with q|q
   ·obtain⟨u,i,m⟩:=WJ.1 q;obtain⟨D,p,rfl⟩:=Uc.1 i;exact(r.rs _ (pY (v.ol name D p))).nw z m
   ·cases q
 unfold ea at j;split at j
 ·split at j
  ·rename_i D G e;rcases(nh _ _).2 y j with q|q
   ·rcases T4.1 q with q|q
    ·obtain⟨n,H,rfl⟩:=Uc.1 q;obtain⟨x,i,m,p⟩:=zx e;obtain⟨-,aa⟩:=wM e;unfold cB at i;obtain⟨R,S,rfl⟩:=Uc.1 i;simp only at m p;subst m;have M:=v.pl R (Vt.1 S).1;have Z:=(r.rs _ (pY M)).nw n H;by_cases J:cS n=true
     ·have a:=Xo.1 p n (Vt.2 ⟨H,J⟩);have h6:=OD (stem:=G) (v.mq _ (pY M) n H);unfold fU at a;rw[aaO] at a;rcases a with a|a
      ·refine .inr ⟨?_,by omega⟩;cases o:Pl.look fs (dJ n G) with
       |none=>rw[o] at a;cases a
       |some f=>unfold Pl.look at o;exact⟨f,Uw o,by simpa using aaP o⟩
      ·unfold je at a;have N:=Xe a;obtain⟨O,V,h9⟩:=Q.tg _ (λe=>by rw[e] at N;cases N);exact .inl ((r.rs O V).tw _ h9)
     ·rw[qO (by simpa using J)];exact .inl Z
    ·exact .inl (I y q)
   ·cases q
  ·exact .inl (I y j)
 ·exact .inl (I y j)
def ry (fs:List aI)(y:ag):Prop:=∀T,2000<=T->T<y.length->∃f∈fs,T<f.aJ.length/\f.aJ.length<=T+2000
theorem Ll (n:Ok s k)(i:lJ s)(a:nU s){name y:ag}(m:ry fs name)(d:y∈(ea s fs (cB s fs s.bD) name).1.aF):ry fs y:=λT o p=>by
 by_cases j:T<name.length
 ·exact m T o j
 ·rcases Om n i a d with q|⟨⟨f,q1,q2⟩,q3⟩
  ·omega
  ·exact⟨f,q1,by rw[q2];omega,by rw[q2];omega⟩
structure tC (s:St)(fs:List aI)(us:List (Nat×List ag))(t:cE):Prop where
 op:∀x∈t.opn,x.1=(ea s fs us x.1.name).1/\ry fs x.1.name
 ov:∀x∈t.cD,ry fs x.name
theorem FG {us:List (Nat×List ag)}{t:cE}{name:ag}(h:tC s fs us t)(a:ry fs name):tC s fs us (dB s fs us t name).2:=by
 unfold dB;split
 ·exact h
 ·split
  ·exact h
  ·split
   ·exact h
   ·refine⟨λx d=> ?_,h.ov⟩;rcases T4.1 d with q|q
    ·exact h.op x q
    ·rw[TL.1 q];simp only;rw[uc];exact⟨rfl,a⟩
theorem Qp (p:Ok s k)(o:lJ s)(m:nU s){t:cE}{x:cA×Nat}(h:tC s fs (cB s fs s.bD) t)(f:t.opn.getLast?=some x):tC s fs (cB s fs s.bD) (fA s fs (cB s fs s.bD) t).2:=by
 have d:x∈t.opn:=List.mem_of_getLast? f;have j:∀y∈t.opn.dropLast,y∈t.opn:=λy a=>List.dropLast_subset _ a;unfold fA;rw[f];simp only;split
 ·unfold lX;rw[f];refine⟨λy a=>h.op y (j y a),λy a=> ?_⟩;simp only at a;split at a
  ·rcases T4.1 a with q|q
   ·exact h.ov y q
   ·rw[TL.1 q];exact(h.op x d).2
  ·exact h.ov y a
 ·rename_i z;have u:tC s fs (cB s fs s.bD) {t with opn:=t.opn.dropLast++[(x.1,x.2+1)]}:=by
   refine⟨λy a=> ?_,h.ov⟩;rcases T4.1 a with q|q
   ·exact h.op y (j y q)
   ·rw[TL.1 q];exact h.op x d
  refine FG u ?_;by_cases i:x.2<x.1.aF.length
  ·have r:x.1.aF.getD x.2 []∈x.1.aF:=by
    rw[TO,TH i];exact TV i
   have e:=(h.op x d).1;have v:x.1.aF.getD x.2 []∈(ea s fs (cB s fs s.bD) x.1.name).1.aF:=by rw[<-e];exact r
   exact Ll p o m (h.op x d).2 v
  ·rw[TO,WA (by omega)];exact λT _ n=>absurd n (Nat.not_lt_zero _)
end
def kR (B:Nat):List aI->Nat
 |[]=>0
 |f::a=>(if f.aJ.length<=B then f.aJ.length else 0)+kR B a
def kx:List aI->Nat
 |[]=>0
 |f::a=>f.aJ.length+kx a
theorem Fj (B:Nat):∀fs,kR B fs<=kx fs
 |[]=>TD _
 |f::a=>by have:=Fj B a;rw[kR,kx];split<;>omega
theorem DH (B:Nat):∀fs,kR B fs<=kR (B+2000) fs
 |[]=>TD _
 |f::a=>by have:=DH B a;rw[kR,kR];split<;>split<;>omega
theorem EZ (B:Nat):∀fs:List aI,(∃f∈fs,B<f.aJ.length/\f.aJ.length<=B+2000)->kR B fs+(B+1)<=kR (B+2000) fs
 |[],h=>by obtain⟨_,h,_⟩:=h;cases h
 |f::a,⟨g,j,i,d⟩=>by
  rw[kR,kR];rcases Ue.1 j with q|q
  ·have:=DH B a;subst q;rw[TJ (by omega),TP d];omega
  ·have:=EZ B a ⟨g,q,i,d⟩;split<;>split<;>omega
theorem D_ {fs:List aI}{y:ag}(h:ry fs y):∀n:Nat,2000*n<y.length->1000*(n*n)+1001*n<=kR (2000*(n+1)) fs
 |0,_=>by omega
 |n+1,a=>by
  have d:=D_ h n (by omega);have:=EZ (2000*(n+1)) fs (h (2000*(n+1)) (by omega) a);rw[show 2000*(n+1)+2000=2000*(n+1+1) by omega] at this;have e:(n+1)*(n+1)=n*n+2*n+1:=by rw[abf,aa2,ZW];omega
  rw[e];generalize kR (2000*(n+1)) fs=X at d this;generalize kR (2000*(n+1+1)) fs=Y at this⊢;generalize n*n=Z at*;omega
theorem QF {s:St}{fs:List aI}{k:Nat}(v:Ok s k)(p:lJ s)(f:nU s)(E:kx fs<=1048576)(g:ag):qJ s fs g 64000:=λG i o r _ x u=>by
 have z:ry fs g:=λT a b=>by omega
 obtain⟨n,d⟩:=o;have:=tZ (tC s fs (cB s fs s.bD)) (λt x h j _=>Qp v p f h j) n _ i d (λ_=>FG ⟨λ_ h=>(by cases h),λ_ h=>(by cases h)⟩ z) r;have m:=this.ov x u;by_cases H:64000<x.name.length
 ·obtain⟨n,d⟩:∃n:Nat,n=32:=⟨32,rfl⟩;have y:=D_ m n (by omega);have D:=Fj (2000*(n+1)) fs;generalize kR (2000*(n+1)) fs=X at y D;have I:n*n=1024:=by rw[d]
  omega
 ·omega
def wt (s:ag):Nat:=2+s.length
def kg (l:List ag):Nat:=(l.map wt).sum
theorem Lm (a b:List ag):kg (a++b)=kg a+kg b:=by unfold kg;rw[T',X4]
theorem El:∀l:List ag,(cY l).length=kg l
 |[]=>rfl|s::a=>by rw[yG,El a];unfold kg wt;simp
theorem Ee {x:ag}:∀{l:List ag},x∈l->kg l=wt x+kg (l.erase x)
 |[],h=>by cases h
 |y::a,h=>by
  by_cases e:y=x
  ·subst e;rw[aa5];unfold kg;simp
  ·have d:x∈a:=(Ue.1 h).resolve_left (λq=>e q.symm);rw[aa6 (by simpa using e)];have f:=Ee d;unfold kg at*;simp only[Ug,XG];omega
theorem Gm:∀(a b:List ag),a.Nodup->(∀x∈a,x∈b)->kg a<=kg b
 |[],b,_,_=>by unfold kg;simp
 |x::j,b,d,i=>by rw[Wv] at d;have m:=i x (TY ..);have n:=Gm j (b.erase x) d.2 λy f=>(XL (λ(e:y=x)=>d.1 (e▸f))).2 (i y (TX _ f));have e:=Ee m;unfold kg at*;simp only[Ug,XG];omega
theorem Af (P:Nat):∀l:List ag,(∀x∈l,x.length<=P)->kg l<=l.length*(P+2)
 |[],_=>by unfold kg;simp
 |x::a,h=>by have f:=Af P a λy d=>h y (TX _ d);have i:=h x (TY ..);unfold kg wt at*;simp only[Ug,XG,TK,VO];omega
structure lF (A:List ag)(q:Wr):Prop where
 nd:q.aY.Nodup
 qK:∀x∈q.aY,x∈A
theorem lF.add {A:List ag}{q:Wr}(h:lF A q)(op:Nat)(os:List Nat):lF A (bR q op os):=⟨by rw[gU];exact h.nd,by rw[gU];exact h.qK⟩
theorem lF.cP {A:List ag}{q:Wr}(h:lF A q){s:ag}(m:s∈A):lF A (q.cP s):=by
 unfold Wr.cP;cases d:q.aY.findIdx? (λx=>x==s) with
 |some p=>exact h
 |none=>
  have n:s∉q.aY:=λf=>by have:=UO.1 d s f;simp at this
  refine⟨?_,λx o=> ?_⟩
  ·show(q.aY++[s]).Nodup;rw[Vc];exact⟨h.nd,by simp,λa i b j e=>n (by rw[TL.1 j] at e;rw[<-e];exact i)⟩
  ·rcases T4.1 o with e|e
   ·exact h.qK x e
   ·rw[TL.1 e];exact m
theorem C9 {A:List ag}(fl:dM)(d:Nat):∀(a:List ag) (q:Wr),lF A q->(∀n∈a,n∈A)->lF A (a.foldl (fH fl d) q)
 |[],_,h,_=>h
 |n::i,q,h,f=>C9 fl d i _ (by unfold fH;exact((((h.add _ _).add _ _).cP (f n (TY ..))).add _ _).add _ _) λy j=>f y (TX _ j)
theorem CV {A:List ag}:∀(a:List ag) (q:Wr),lF A q->(∀c∈a,c∈A)->lF A (a.foldl gd q)
 |[],_,h,_=>h
 |c::f,q,h,d=>CV f _ (by unfold gd;exact(h.cP (d c (TY ..))).add _ _) λy i=>d y (TX _ i)
theorem GF {A:List ag}(d:List bP)(m:∀x∈d,x.name∈A/\(∀n∈x.aF,n∈A)/\∀c∈x.aH,c∈A):∀a,a<=d.length->lF A (cZ d a).1
 |0,_=>⟨VF,λx v=>by cases v⟩
 |a+1,y=>by
  have i:a<d.length:=by omega
  have f:=GF d m a (by omega);obtain⟨r,p,u⟩:=m d[a] (TV i);rw[sk d a i];simp only;have o:lF A (ir (cL (cZ d a).2 d[a].name a) (cZ d a).1 d[a].ph d[a].name d[a].aF):=by
   unfold ir;split
   ·exact f.add _ _
   ·exact C9 _ _ _ _ ((f.cP r).add _ _) p
  have j:lF A (fK (bR (ir (cL (cZ d a).2 d[a].name a) (cZ d a).1 d[a].ph d[a].name d[a].aF) 6 []) d[a].aH a):=by unfold fK;exact(CV _ _ (o.add _ _) u).add _ _
  exact⟨j.nd,j.qK⟩
def jS:List bP->Nat
 |[]=>0
 |x::a=>x.aH.length+jS a
theorem JR (a b:List bP):jS (a++b)=jS a+jS b:=by
 induction a with
 |nil=>simp[jS]
 |cons x f d=>rw[UE,jS,jS,d];omega
theorem Te (F K:ag->Nat)(x:bP)(j:Nat):(jU F K x j).length<=8+9*x.aF.length+3*x.aH.length:=by
 have p:∀a:List ag,(a.flatMap (th F K x.name)).length=9*a.length:=λa=>by
  induction a with
  |nil=>rfl|cons n f i=>rw[Ud,TE,i,TK];show 9+_=_;omega
 have m:∀d:List ag,(iB K d).length=3*d.length:=λd=>by
  induction d with
  |nil=>rfl
  |cons c f i=>
   have e:iB K (c::f)=oC (K c)++iB K f:=by unfold iB;rw[Ud]
   rw[e,TE,i,TK];show 3+_=_;omega
 unfold jU nI jQ;rw[TE,TE,TE,m];have u:(lH j).length=2:=rfl;have o:∀n,(ei n).length=3:=λ_=>rfl;rw[u,o];split
 ·simp only[TK,T1];omega
 ·rw[TE,p];have r:(qu (K x.name)).length=3:=rfl;rw[r];omega
theorem FE (F:Nat->ag->Nat)(K:ag->Nat):∀(d:List bP) (a:Nat),(∀x∈d,x.aF.length<=100)->(kV F K d a).length<=908*d.length+3*jS d
 |[],_,_=>TD _
 |x::f,a,h=>by have j:=FE F K f (a+1) λy i=>h y (TX _ i);have n:=Te (F a) K x a;have m:=h x (TY ..);rw[kV,TE,jS,TK];omega
theorem y9:∀a:List bP,(a.flatMap (·.aH)).length=jS a
 |[]=>rfl|x::d=>by rw[Ud,TE,y9 d,jS]
theorem Pe (h:fB d=some j)(E:d.length<=100)(I:jS d<=500)(m:∀x∈d,tP 64000 x)(H:∀x∈d,∀n∈x.aF,∃y∈d,y.name=n):j.length<=8388608:=by
 have o:=GF (A:=d.map (·.name)++d.flatMap (·.aH)) d (λx a=>⟨Ul _ (Uc.2 ⟨x,a,rfl⟩),λn z=>(by obtain⟨y,M,G⟩:=H x a n z;exact Ul _ (Uc.2 ⟨y,M,G⟩)),λc p=>Un _ (Wp.2 ⟨x,a,p⟩)⟩) d.length ak;unfold fB nA at h;generalize r:(cZ d d.length).1=w at h o;split at h
 ·cases h
 ·rename_i v;cases h;rw[WH,UD] at v;obtain⟨f,-⟩:=v;unfold ma at f;rw[UD,UD] at f;obtain⟨u,-⟩:=yu (T:=w.aY) d d.length ak (by rw[r];exact⟨List.prefix_refl _,f.1.1⟩);rw[r,Us] at u;have R:=FE (nX d) (eU w.aY) d 0 λx a=>(m x a).aF;have J:=Gm _ _ o.nd o.qK;rw[Lm] at J;have O:=Af 64000 (d.map (·.name)) λy i=>by obtain⟨x,a,rfl⟩:=Uc.1 i;exact(m x a).name
  have D:=Af 2000 (d.flatMap (·.aH)) λy i=>by obtain⟨x,a,p⟩:=Wp.1 i;exact(m x a).cw y p
  rw[TR] at O;rw[y9] at D;have Q:=U4 (64000+2) E;have S:=U4 (2000+2) I;unfold kX;rw[Us,TE,TE,TE,El,u];have N:(dc w.aY.length 2).length=2:=rfl;rw[N];simp only[TK,T1];omega
theorem Nw (d:List aI)(i goal:ag)(a:Option Addr)(cap b R M P:Nat)(W:ax)(ha:0<d.length->a=some ⟨b,R,none⟩)(hr:dA W b R d)(aa:b<W.heap.size)(ap:d.length<=8388608)(hg:c_ W)(hf:∀H g,Pl.look (d.foldl Pl.bp []) H=some g->g.aT.length+1<=M/\g.aT.length<=1073741824)(hM:101*M<=2000000000)(am:(d.foldl Pl.bp []).length<=4000000000)(ao:P<=80000)(aj:∀f∈d.foldl Pl.bp [],f.aJ.length<=8388608)(ae:qJ (cI (d.foldl Pl.bp []) i).2.2 (d.foldl Pl.bp []) (fX (cI (d.foldl Pl.bp []) i).2.2 goal) P)(hz:(cI (d.foldl Pl.bp []) i).1=0):
 Calls prog 40 #[.slice a d.length cap,.string ⟨i.toArray⟩,.string ⟨goal.toArray⟩] W λe W'=>uV (d.foldl Pl.bp []) i goal W e W' :=by
 have C1:=aB (BU d [] a none cap b R 0 W.heap.size b 0 0 W ha hr aa ap (λq=>(by cases q)) ⟨aa,λar h=>(by cases h)⟩ ak (by decide));rw[T1] at C1;obtain⟨k,ac,hk⟩:=Gz hf i;have ht:=F8 (d.foldl Pl.bp []) i;have hu:=zs (d.foldl Pl.bp []) i;have HT:Hid (∀j,s5 (cI (d.foldl Pl.bp []) i).2.2 (d.foldl Pl.bp []) (fX (cI (d.foldl Pl.bp []) i).2.2 goal) j->g_ (d.foldl Pl.bp []) i goal j):=λj h=> .inr ⟨hz,h⟩;have C2:Hid (∀o m bf bi,PW o m bf bi (.slice none 0 0) [] (d.foldl Pl.bp []) 0->Below W.heap.size W o->Calls prog 64 #[.pointer (some ⟨m,0,none⟩),.string ⟨i.toArray⟩] o λe N=>∃bb E,e= .returned (.tuple #[.pointer (some ⟨bb,0,none⟩),.int .i64 0,.int .i64 0])/\
  Calls prog 65 #[.pointer (some ⟨bb,0,none⟩),.pointer (some ⟨m,0,none⟩),.string ⟨goal.toArray⟩] N λe p=>Hv (cI (d.foldl Pl.bp []) i).2.2 (d.foldl Pl.bp []) (fX (cI (d.foldl Pl.bp []) i).2.2 goal) E N e p/\p.cell? ⟨bb,0,none⟩=some (.map (some E))/\Below W.heap.size W p):=λo m bf bi D n=>by
  refine(Br m i o D (hg.aE n) hf (by omega)).mono ?_;rintro e N ⟨J,-,Z⟩;obtain⟨c,G,rb,e1,e2,e3,-⟩:=Z hz;obtain⟨vp,l,hB⟩:=bu.bm e3;refine⟨c.bb,c.nm,e2,?_⟩;have ab:=D.aE J;rw[<-e1] at ab⊢;refine(L6 goal k P hB ab ((hg.aE n).aE J) ac (by omega) ht hu am ao aj ae).mono ?_;rintro e p hq;have an :=hq;obtain⟨_,_,_,h3,_⟩:=hq;exact⟨an,aG.cell? (i:=0) (hB.aE h3).cV rfl,(n.tr J).trans (h3.mono (n.tr J).size)⟩
 clear ha hr hg hf aj ac ht hu hz ae;generalize (cI (d.foldl Pl.bp []) i).2.2=s at*;generalize fX s goal=g at*;generalize d.foldl Pl.bp []=fs at*;go_enter func40,ntmps40;go_wp2_with (first
  |(go_at_call 61;refine C1.u.mono ?_;clear C1;rintro e o ⟨m,bf,bi,rfl,D,n,-,-,-⟩;have C3:=aB (C2.u o m bf bi D n);clear D n C2)|(go_at_call 64;refine C3.u.mono ?_;clear C3;rintro e N ⟨bb,E,rfl,co⟩;have C4:=aB co;clear co)
  |(go_at_call 65;refine C4.u.mono ?_;clear C4;rintro e p ⟨⟨nv,er,rfl,-,ho⟩,y0,al⟩;have HB:=aB al;have S:Hid ((((er:Int) !=0)=true->g_ fs i goal ([],er,0))/\(((er:Int) !=0)=false->∃y,(∀x j,iV (cW s.aV) y 0 [] x->rh x j->g_ fs i goal j)/\Calls prog 66 #[nv,.map (some E)] p λe W2=>Ag (cW s.aV) y p e W2)):=(by
   rcases ho with⟨z,r⟩|⟨z,y,r,I⟩
   ·exact⟨λ_=>HT.u _ r,λq=>absurd (Uv.1 q) (by omega)⟩
   ·exact⟨λq=>absurd z (by have:=UY.1 q;omega),λ_=>⟨y,λx j a1 a2=>HT.u j (r x j a1 a2),I⟩⟩);clear al ho HT)
  |(go_at_call 66;obtain⟨y,r,I⟩:=S.u.2 (by assumption);clear S;refine I.mono ?_;clear I;rintro e Q ⟨sv,V,aq,rfl,ai,x,hR,hs⟩;have ad:=aB (HB.u.tr ai);have O:Hid ((((V:Int) !=0)=true->g_ fs i goal ([],V,aq))/\(((V:Int) !=0)=false->∃v:Option ag,g_ fs i goal (match v with
   |none=>([],5,0)|some H=>(H,0,0))/\Calls prog 67 #[sv] Q λe W2=>e= .returned (pj v)/\Below Q.heap.size Q W2)):=(by
   rcases hs with⟨z,q2⟩|⟨z,v,q2,Z⟩
   ·exact⟨λ_=>r _ _ hR q2,λq=>absurd (Uv.1 q) (by omega)⟩
   ·exact⟨λq=>absurd z (by have:=UY.1 q;omega),λ_=>⟨v,r _ _ hR q2,Z⟩⟩);clear ai hR hs r HB)
  |fail)
 ·rename_i q;go_ret3
  exact⟨_,S.u.1 q,rfl,HB.u⟩
 ·rename_i q;go_ret3
  exact⟨_,O.u.1 q,rfl,ad.u⟩
 ·obtain⟨v,p1,p2⟩:=O.u.2 (by assumption);refine p2.mono ?_;rintro e w5 ⟨rfl,ah⟩;have af:=aB (ad.u.tr ah);clear ah p2 O;cases v with
  |none=>
   unfold pj;go_wp2_with fail
   go_ret3
   exact⟨_,p1,rfl,af.u⟩
  |some H=>
   unfold pj;go_wp2_with fail
   go_ret3
   exact⟨_,p1,rfl,af.u⟩
theorem OW (d:List aI)(i goal:ag)(a:Option Addr)(cap b j M P:Nat)(W:ax)(u:0<d.length->a=some ⟨b,j,none⟩)(o:dA W b j d)(r:b<W.heap.size)(n:d.length<=8388608)(p:c_ W)(m:∀G g,Pl.look (d.foldl Pl.bp []) G=some g->g.aT.length+1<=M/\g.aT.length<=1073741824)(z:101*M<=2000000000)(y:(d.foldl Pl.bp []).length<=4000000000)(x:P<=80000)(E:∀f∈d.foldl Pl.bp [],f.aJ.length<=8388608)(D:qJ (cI (d.foldl Pl.bp []) i).2.2 (d.foldl Pl.bp []) (fX (cI (d.foldl Pl.bp []) i).2.2 goal) P):
 Calls prog 40 #[.slice a d.length cap,.string ⟨i.toArray⟩,.string ⟨goal.toArray⟩] W λe W'=>uV (d.foldl Pl.bp []) i goal W e W' :=by
 by_cases v:(cI (d.foldl Pl.bp []) i).1=0
 ·exact Nw d i goal a cap b j M P W u o r n p m z y x E D v
 ·exact Kn d i goal a cap b j M W u o r n p m (by omega) v
structure IG (fs0:List aI)(aJ goal:ag):Prop where
 gG:fs0.length<=8388608
 aT:∃M,101*M<=2000000000/\∀p g,Pl.look (fs0.foldl Pl.bp []) p=some g->g.aT.length+1<=M/\g.aT.length<=1073741824
 SO:(fs0.foldl Pl.bp []).length<=4000000000
 S2:∀f∈fs0.foldl Pl.bp [],f.aJ.length<=8388608
 name:∃P,P<=80000/\qJ (cI (fs0.foldl Pl.bp []) aJ).2.2 (fs0.foldl Pl.bp []) (fX (cI (fs0.foldl Pl.bp []) aJ).2.2 goal) P
variable {x:List aI}
theorem ym {goal:ag}(d:IG x j goal)(a:Option Addr)(cap b i:Nat)(W:ax)(v:0<x.length->a=some ⟨b,i,none⟩)(o:dA W b i x)(E:b<W.heap.size)(D:c_ W):
 Calls prog 11 #[.slice a x.length cap,.string ⟨j.toArray⟩,.string ⟨goal.toArray⟩] W λe W'=>uV (x.foldl Pl.bp []) j goal W e W' :=by
 obtain⟨M,z,n⟩:=d.aT;obtain⟨P,G,r⟩:=d.name;have C:=aB (OW x j goal a cap b i M P W v o E d.gG D n z d.SO G d.S2 r);clear v o n r d;go_enter func11,ntmps11;go_wp2_with fail
 refine C.u.mono ?_;rintro e y ⟨f,m,rfl,p⟩;have H:=aB (show uV (x.foldl Pl.bp []) j goal W (.returned (.tuple #[.string ⟨f.1.toArray⟩,.int .i64 (f.2.1:Int),.int .i64 (f.2.2:Int)])) y from⟨f,m,rfl,p⟩);clear m p C;go_wp2_with fail
 go_ret3
 exact H.u
section
variable {l:ag} {fs:List aI} {ef:List bL} {aP:Int} {B:Nat} {e:Ending} {w w' :ax}
end
theorem zr {N:ag->Nv} :∀(j:List (ag×Nat)) (k:Nat) (f:List ag) (d :Nat) (out:List ag),jw N u j k f (.inr (d,out))->k<=d /\(d <=500->out.length+k=f.length+d)
 |[],k,f,d,out,h=>by have e:(Sum.inr (d,out):(Nat×Nat)⊕(Nat×List ag))= .inr (k,f):=h;cases e;exact⟨TD _,λ_=>rfl⟩
 |c::i,k,f,d,out,⟨n,o,h⟩=>by
  split at h
  ·cases h
  ·split at h
   ·exact zr i k f d out h
   ·obtain⟨a,b⟩:=zr i (k+1) _ d out h;refine⟨by omega,λm=> ?_⟩;have:=b m;rw[TP (by omega),TE,T6] at this;omega
theorem zp {N:ag->Nv}:∀(j:List cA) (k:Nat) (f:List bP) (a :Nat) (d:List bP),iV N j k f (.inr (a,d))->k<=a /\(a <=500->jS d+k=jS f+a)/\d.map (λx=>(x.name,x.aF))=f.map (λx=>(x.name,x.aF))++j.map (λx=>(x.name,x.aF))
 |[],k,f,a,d,h=>by have e:(Sum.inr (a,d):(Nat×Nat)⊕(Nat×List bP))= .inr (k,f):=h;cases e;exact⟨TD _,λ_=>rfl,by simp⟩
 |x::y,k,f,a,d,⟨G,u,h⟩=>by
  cases G with
  |inl e=>cases h
  |inr n=>
   obtain⟨m,H⟩:=n;obtain⟨E,r⟩:=zr _ _ _ _ _ u;obtain⟨D,o,p⟩:=zp y m _ a d h;refine⟨by omega,λv=> ?_,?_⟩
   ·have z:=r (by omega);have i:=o v;rw[JR] at i;simp only[jS,T1] at z i;omega
   ·rw[p,T',Ub];rfl
theorem OE {fs:List aI}{goal:ag}(h:g_ fs j goal p)(h0:p.2.1=0)(m:qJ (cI fs j).2.2 fs (fX (cI fs j).2.2 goal) 64000):p.1.length<=8388608:=by
 obtain⟨-,q,k,J,I,r,f,hg,z,h5,h6⟩:=h.dS h0;obtain⟨-,V,i⟩:=zp _ _ _ _ _ z;have H:=(uC I r).1;have D:=zs fs j;have E:=m hg q I r f;have ac:∀x∈q.2.cD,x.name.length<=64000/\x.aF.length<=100/\∀n∈x.aF,n.length<=64000:=λx d=>by obtain⟨Q,z2⟩:=sr D H f d;refine⟨E x d,Q,λn m=> ?_⟩;obtain⟨y,a,b⟩:=z2 n m;rw[<-b];exact E y a
 obtain⟨S,R⟩:=vK (P:=64000) _ _ _ _ _ z ac (λx d=>by cases d);simp only[VL,UI] at i;refine Pe h6 ?_ ?_ R λx d n hm=> ?_
 ·rw[S,T1];omega
 ·have:=V h5;simp only[jS] at this;omega
 ·have o:(x.name,x.aF)∈J.map λx=>(x.name,x.aF):=Uc.2 ⟨x,d,rfl⟩;rw[i] at o;obtain⟨u,Z,N⟩:=Uc.1 o;have M:u.aF=x.aF:=by simpa using TU Prod.snd N
  obtain⟨y,hy,ab⟩:=(sr D H f Z).2 n (by rw[M];exact hm);have G:(y.name,y.aF)∈q.2.cD.map λx=>(x.name,x.aF):=Uc.2 ⟨y,hy,rfl⟩;rw[<-i] at G;obtain⟨v,aa,O⟩:=Uc.1 G;refine⟨v,aa,?_⟩;have:v.name=y.name:=by simpa using TU Prod.fst O
  rw[this,ab]
def ke:List aI->Nat
 |[]=>0
 |f::a=>f.aJ.length+f.aT.length+1+ke a
theorem uy:∀{fs:List aI} {f:aI},f∈fs->f.aJ.length+f.aT.length+1<=ke fs
 |[],_,h=>by cases h
 |g::a,f,h=>by
  rw[ke];rcases Ue.1 h with e|e
  ·rw[e];omega
  ·have:=uy e;omega
theorem wJ:∀fs:List aI,fs.length<=ke fs
 |[]=>TD _
 |f::a=>by have:=wJ a;rw[ke,TK];omega
theorem KD (a b:List aI):kx (a++b)=kx a+kx b:=by
 induction a with
 |nil=>simp[kx]
 |cons x f d=>rw[UE,kx,kx,d];omega
theorem zF:∀(fs a:List aI),kx (fs.foldl Pl.bp a)<=kx a+ke fs/\∀f∈fs.foldl Pl.bp a,f∈a\/f∈fs
 |[],a=>⟨TD _,λf d=> .inl d⟩
 |g::i,a=>by
  obtain⟨n,j⟩:=zF i (Pl.bp a g);rw[Ux,ke];have m:kx (Pl.bp a g)<=kx a+g.aJ.length/\∀f∈Pl.bp a g,f∈a\/f=g:=by
   unfold Pl.bp;split
   ·exact⟨XW _ _,λf d=> .inl d⟩
   ·refine⟨by rw[KD];simp[kx],λf d=> ?_⟩;rcases T4.1 d with e|e
    ·exact .inl e
    ·exact .inr (TL.1 e)
  refine⟨by omega,λf d=> ?_⟩;rcases j f d with e|e
  ·rcases m.2 f e with q|q
   ·exact .inl q
   ·exact .inr (by rw[q];exact TY ..)
  ·exact .inr (TX _ e)
theorem Ao (p:ke x<=1048576)(a goal:ag):qJ (cI (x.foldl Pl.bp []) a).2.2 (x.foldl Pl.bp []) (fX (cI (x.foldl Pl.bp []) a).2.2 goal) 64000:=by obtain⟨n,m⟩:=zF x [];have j:∀f∈x.foldl Pl.bp [],f∈x:=λf d=>(m f d).resolve_left (λq=>by cases q);obtain⟨k,i,-⟩:=Gz (M:=1048577) (fs:=x.foldl Pl.bp []) (λo g h=>by have:=uy (j g (Uw h));omega) a;exact QF i (F8 _ _) (O9 _ _) (by simp only[kx] at n;omega) _
theorem AN {fs0:List aI}(n:ke fs0<=1048576)(i goal:ag):IG fs0 i goal:=by
 obtain⟨r,j⟩:=zF fs0 [];have d:∀f∈fs0.foldl Pl.bp [],f∈fs0:=λf a=>(j f a).resolve_left (λq=>by cases q);have o:=wJ fs0;have m:=z7 fs0 [];refine⟨by omega,⟨1048577,by decide,λp g h=> ?_⟩,?_,λf a=> ?_,64000,by decide,Ao n i goal⟩
 ·have:=uy (d g (Uw h));omega
 ·simp only[T1] at m;omega
 ·have:=uy (d f a);omega
def sV (l:List cA):Prop:=∀a (h:a<l.length),∀n∈l[a].aF,∃d,∃f:d<a,(l[d]'(by omega)).name=n
theorem sV.fO {l:List cA}{x:cA}(h:sV l)(u:∀n∈x.aF,∃y∈l,y.name=n):sV (l++[x]):=λf r n d=>by
 rw[TE,T6] at r;by_cases e:f=l.length
 ·subst e;rw[ZM rfl] at d;obtain⟨y,p,m⟩:=u n d;obtain⟨i,a,rfl⟩:=U8 p;exact⟨i,a,by rw[Vy a];exact m⟩
 ·have j:f<l.length:=by omega
  rw[Vy j] at d;obtain⟨i,a,o⟩:=h f j n d;exact⟨i,a,by rw[Vy (by omega)];exact o⟩
structure AV (s:St)(fs:List aI)(us:List (Nat×List ag))(t:cE):Prop where
 ov:mU s fs us none t
 ah:t.cD.length<=100->sV t.cD
section
variable {s:St} {fs:List aI} {us:List (Nat×List ag)}
theorem Cu {t:cE}{name:ag}:(dB s fs us t name).2.cD=t.cD:=by
 unfold dB;split
 ·rfl
 ·split
  ·rfl
  ·split<;>rfl
theorem QA {t:cE}{x:cA×Nat}(h:AV s fs us t)(a:t.opn.getLast?=some x)(p:(fA s fs us t).1=0):AV s fs us (fA s fs us t).2:=by
 refine⟨Hb h.ov a p,?_⟩;obtain⟨d,m⟩:=Wz.1 a;have f:=h.ov.lk;rw[m] at f;unfold fA;rw[a];simp only;split
 ·rename_i v;unfold lX;rw[a];simp only;split
  ·rename_i j;intro _;refine(h.ah j).fO λn u=> ?_;obtain⟨r,i⟩:=Ze u;have y:=(TZ.1 i).1;have:=gD.du (two:=λn=>bG t.bF n=2) d f r (by omega);rw[TO,i] at this;exact h.ov.all j n this
  ·intro o;exact h.ah o
 ·rw[Cu];exact h.ah
theorem Mc {g:ag}(h:gM s fs us (dB s fs us gi g) o)(d:o.1=0)(a:o.2.cD.length<=100):sV o.2.cD:=by obtain⟨n,i⟩:=h;exact(tZ (AV s fs us) (λt x h a d=>QA h a d) n _ o i (λe=>⟨zA (IU g) e,λ_=>by rw[Cu];exact λj f=>by cases f⟩) d).ah a
end
structure Sm (A:List ag)(q:Wr):Prop where
 cP:lF A q
 ok:q.kr=false
section
variable {A:List ag} {q:Wr}
theorem uD {n w:Nat}(h:n<256^w):gT n w=false:=by unfold gT;exact UA (by omega)
theorem Sm.add (h:Sm A q){op:Nat}{os:List Nat}(a:os.getD 0 0<256^gP op 0)(d:os.getD 1 0<256^gP op 1):Sm A (bR q op os):=⟨h.cP.add _ _,by rw[B9,h.ok,uD a,uD d];rfl⟩
theorem Sm.Ai (h:Sm A q){s:ag}(a:s∈A):Sm A (q.cP s):=⟨h.cP.cP a,by
 unfold Wr.cP;split
 ·exact h.ok
 ·exact h.ok⟩
theorem Sm.aZ (h:Sm A q)(f:A.length<=600)(s:ag):q.aZ s<65536:=by have d:=xg q s;have a:=uQ q.aY A h.cP.nd h.cP.qK;omega
theorem FR (m:A.length<=600)(fl:dM)(d:∀n,bG fl n<256)(a:Nat)(o:a<65536):∀(f:List ag) (q:Wr),Sm A q->(∀n∈f,n∈A)->Sm A (f.foldl (fH fl a) q)
 |[],_,h,_=>h
 |n::p,q,h,j=>by refine FR m fl d a o p _ ?_ λy u=>j y (TX _ u);unfold fH;have r:Sm A (bR q 4 [bG fl n]):=h.add (d n) (show 0<256^0 by decide);have i:Sm A (bR (bR q 4 [bG fl n]) 5 []):=r.add (show 0<256^0 by decide) (show 0<256^0 by decide);exact((i.Ai (j n (TY ..))).add (op:=3) (os:=[a,(bR (bR q 4 [bG fl n]) 5 []).aZ n]) (show a<256^2 from o) (show _<256^2 from i.aZ m n)).add (show 0<256^0 by decide) (show 0<256^0 by decide)
theorem FZ (f:A.length<=600):∀(a:List ag) (q:Wr),Sm A q->(∀c∈a,c∈A)->Sm A (a.foldl gd q)
 |[],_,h,_=>h
 |c::i,q,h,d=>by refine FZ f i _ ?_ λy j=>d y (TX _ j);unfold gd;exact(h.Ai (d c (TY ..))).add (show _<256^2 from h.aZ f c) (show 0<256^0 by decide)
theorem yQ (a:Wr)(op:Nat)(os:List Nat):(bR a op os).bh.length=a.bh.length+1+gP op 0+gP op 1:=by rw[od,TE,TK,TE,iU _ _ (uE op 0),iU _ _ (uE op 1)];omega
theorem Dg:∀(a:List ag) (q:Wr),(a.foldl gd q).bh.length=q.bh.length+3*a.length
 |[],_=>rfl|c::f,q=>by rw[Ux,Dg f];unfold gd;rw[yQ,nj];have d:gP 7 0=2:=rfl;have i:gP 7 1=0:=rfl;rw[d,i,TK];omega
theorem Io (f:A.length<=600)(d:List bP)(J:d.length<=100)(v:∀x∈d,x.aH.length<=500)(u:∀x∈d,x.name∈A/\(∀n∈x.aF,n∈A)/\∀c∈x.aH,c∈A):∀a,a<=d.length->Sm A (cZ d a).1/\∀x∈(cZ d a).2,x.2<256
 |0,_=>⟨⟨⟨VF,λx o=>by cases o⟩,rfl⟩,λx o=>by cases o⟩
 |a+1,S=>by
  have j:a<d.length:=by omega
  obtain⟨i,z⟩:=Io f d J v u a (by omega);obtain⟨E,y,M⟩:=u d[a] (TV j);have R:=v d[a] (TV j);have r:=wG d[a].name a 256 (by omega) (cZ d a).2 z;have G:∀n,bG (cL (cZ d a).2 d[a].name a) n<256:=λn=>DI n 256 (by decide) _ r;rw[sk d a j];refine⟨?_,r⟩;simp only;have D:Sm A (ir (cL (cZ d a).2 d[a].name a) (cZ d a).1 d[a].ph d[a].name d[a].aF):=by
   unfold ir;split
   ·exact i.add (show 1<256^1 by decide) (show 0<256^0 by decide)
   ·exact FR f _ G _ (i.aZ f _) _ _ ((i.Ai E).add (show _<256^2 from i.aZ f _) (show 0<256^0 by decide)) y
  generalize ir (cL (cZ d a).2 d[a].name a) (cZ d a).1 d[a].ph d[a].name d[a].aF=p at*;have m:Sm A (fK (bR p 6 []) d[a].aH a):=by unfold fK;exact(FZ f _ _ (D.add (op:=6) (os:=[]) (show 0<256^2 by decide) (show 0<256^0 by decide)) M).add (show a<256^1 by omega) (show 0<256^0 by decide)
  have I:(fK (bR p 6 []) d[a].aH a).bh.length=p.bh.length+3+3*d[a].aH.length+2:=by unfold fK;rw[yQ,Dg,yQ];have N:gP 6 0=2:=rfl;have H:gP 6 1=0:=rfl;have O:gP 8 0=1:=rfl;have Q:gP 8 1=0:=rfl;rw[N,H,O,Q]
  unfold lY tB;refine⟨⟨m.cP.nd,m.cP.qK⟩,?_⟩;simp only;rw[m.ok,I,uD (show _<256^2 by omega)];rfl
theorem MR (D:d.length<=100)(I:jS d<=500)(j:∀x∈d,tP 64000 x)(G:∀x∈d,∀n∈x.aF,∃y∈d,y.name=n):∃r,fB d=some r:=by
 have u:(d.map (·.name)++d.flatMap (·.aH)).length<=600:=by rw[TE,TR,y9];omega
 obtain⟨i,-⟩:=Io u d D (λx f=>(j x f).aH) (λx f=>⟨Ul _ (Uc.2 ⟨x,f,rfl⟩),λn z=>(by obtain⟨y,a,b⟩:=G x f n z;exact Ul _ (Uc.2 ⟨y,a,b⟩)),λc m=>Un _ (Wp.2 ⟨x,f,m⟩)⟩) d.length ak;have H:=uQ _ _ i.cP.nd i.cP.qK;unfold fB nA;generalize (cZ d d.length).1=w at*;have v:ma w w.aY.length=false:=by
  unfold ma;rw[i.ok,uD (show _<256^2 by omega),Us];simp only[Bool.or_self,VV];rw[VG];intro s E;have p:s.length<65536:=by
   rcases T4.1 (i.cP.qK s E) with q|q
   ·obtain⟨x,f,rfl⟩:=Uc.1 q;have:=(j x f).name;omega
   ·obtain⟨x,f,m⟩:=Wp.1 q;have:=(j x f).cw s m;omega
  rw[uD (show s.length<256^2 from p)];decide
 rw[v];have o:decide (1000<w.aY.length)=false:=UA (by omega);rw[o];exact⟨_,rfl⟩
end
theorem KZ {fs:List aI}{g:ag}{q:Nat×cE}{k:Nat}(R:gM (cI fs j).2.2 fs (cB (cI fs j).2.2 fs (cI fs j).2.2.bD) (dB (cI fs j).2.2 fs (cB (cI fs j).2.2 fs (cI fs j).2.2.bD) gi g) q)(G:q.1=0)(D:q.2.cD.length<=100)(E:∀x∈q.2.cD,x.name.length<=64000)(r:iV (cW (cI fs j).2.2.aV) q.2.cD 0 [] (.inr (k,d)))(S:k<=500):∃V,fB d=some V:=by
 obtain⟨-,a2,i⟩:=zp _ _ _ _ _ r;have p:=(uC R G).1;have z:=zs fs j;have ab:∀x∈q.2.cD,x.name.length<=64000/\x.aF.length<=100/\∀n∈x.aF,n.length<=64000:=λx f=>by obtain⟨Q,O⟩:=sr z p D f;refine⟨E x f,Q,λn hn=> ?_⟩;obtain⟨y,a,b⟩:=O n hn;rw[<-b];exact E y a
 obtain⟨e1,Z⟩:=vK (P:=64000) _ _ _ _ _ r ab (λx f=>by cases f);simp only[VL,UI] at i;refine MR ?_ ?_ Z λx f n hm=> ?_
 ·rw[e1,T1];omega
 ·have:=a2 S;simp only[jS] at this;omega
 ·have m:(x.name,x.aF)∈d.map λx=>(x.name,x.aF):=Uc.2 ⟨x,f,rfl⟩;rw[i] at m;obtain⟨u,H,M⟩:=Uc.1 m;have J:u.aF=x.aF:=by simpa using TU Prod.snd M
  obtain⟨y,hy,aa⟩:=(sr z p D H).2 n (by rw[J];exact hm);have o:(y.name,y.aF)∈q.2.cD.map λx=>(x.name,x.aF):=Uc.2 ⟨y,hy,rfl⟩;rw[<-i] at o;obtain⟨v,I,N⟩:=Uc.1 o;refine⟨v,I,?_⟩;have:v.name=y.name:=by simpa using TU Prod.fst N
  rw[this,aa]
structure nM (b:Bk)(t:Wk)(ls:List (List ag)):Prop where
 nd:(t.aQ.map (·.1.name)).Nodup
 lt:∀i∈t.aW,i<t.aQ.length
 IW:((fQ b t).map (·.name)).Nodup
 ah:sV (fQ b t)
 ll:ls.length=t.aW.length
 ln:t.aQ.length=t.aW.length
 le:t.aW.length<=100
 sc:iL ls<=500
theorem nM.db {b:Bk}{t:Wk}(h:nM b t f):∀y∈fQ b t,∀n∈y.aF,∃m∈fQ b t,m.name=n:=λy a n j=>by obtain⟨d,i,rfl⟩:=U8 a;obtain⟨p,o,e⟩:=h.ah d i n j;exact⟨_,TV _,e⟩
theorem nM.Sz {b:Bk}{t:Wk}(h:nM b t f):∀a∈t.aW,∀n∈(bS t a).1.aF,∃p,dj t.aQ n=some p:=λa o n v=>by obtain⟨m,r,u⟩:=h.db (eC b (bS t a).1) (Uc.2 ⟨a,o,rfl⟩) n v;obtain⟨d,j,rfl⟩:=Uc.1 r;have i:(bS t d).1.name=n:=u;exact⟨d,by rw[<-i];exact yt h.nd (h.lt d j)⟩
theorem nM.SJ {b:Bk}{t:Wk}(h:nM b t f)(r:fB (kM b t f)=some j):∃T c,Pl.load j=some (T,c)/\kK j/\∀ef X,X.exit=0->jC c T ef X=mx ef t (t.aW.zip f) (λ_=>false) X:=by
 have E:(kM b t f).length=(fQ b t).length:=by unfold kM fQ;rw[List.length_zipWith,TR,h.ll,Nat.min_self]
 have d:∀a (i:a<(kM b t f).length),(kM b t f)[a].name=((fQ b t)[a]'(by omega)).name/\(kM b t f)[a].aF=((fQ b t)[a]'(by omega)).aF:=λa i=>by have e:(kM b t f)[a]=qk ((fQ b t)[a]'(by omega)) (f[a]'(by have:=h.ll;have:(fQ b t).length=t.aW.length:=TR _;omega)):=List.getElem_zipWith;rw[e];exact⟨rfl,rfl⟩
 have z:(kM b t f).map (·.name)=(fQ b t).map (·.name):=by refine XV (by simpa using E) λa D G=> ?_;rw[Ut,Ut];exact(d a (by simpa using D)).1
 obtain⟨T,c,p,v,x⟩:=Eu r (by rw[z];exact h.IW) (λa i n o=>by rw[(d a i).2] at o;obtain⟨m,y,e⟩:=h.ah a (by omega) n o;exact⟨m,y,by rw[(d m (by omega)).1];exact e⟩);exact⟨T,c,p,v,λef X u=>by rw[x ef X u,RJ ef b h.nd h.lt h.IW h.db h.ll X]⟩
theorem M6 {fs:List aI}{goal:ag}(h:g_ fs j goal p)(hn:qJ (cI fs j).2.2 fs (fX (cI fs j).2.2 goal) 64000):
 ∃er o t n,rp (eb fs j) fs goal er o t n/\(er=p.2.1/\o=p.2.2/\(er=0->fB (kM (eb fs j) t n)=some p.1/\nM (eb fs j) t n)):=by
 obtain⟨N,b2,b3⟩:=DO fs j;rcases h with⟨x,rfl⟩|⟨x,Z⟩
 ·exact⟨_,_,jg,[],.inl ⟨by rw[<-N];exact x,rfl,rfl⟩,N.symm,(b2 x).symm,λe=>absurd (N.trans e) x⟩
 ·have hs:=b3 x;have ai:(eb fs j).cy=0:=by rw[<-N];exact x
  have hg:fX (cI fs j).2.2 goal=if goal=[] then pg (eb fs j) else goal:=by unfold fX;rw[MS hs];rfl
  rw[hg] at Z hn;obtain⟨g,ad⟩:∃g,g=(if goal=[] then pg (eb fs j) else goal):=⟨_,rfl⟩;rw[<-ad] at Z hn
  suffices r:∃er o t n,xp (eb fs j) fs g er o t n/\(er=p.2.1/\o=p.2.2/\(er=0->fB (kM (eb fs j) t n)=some p.1/\nM (eb fs j) t n)) by obtain⟨er,o,t,n,y,q2⟩:=r;exact⟨er,o,t,n,.inr ⟨ai,by rw[<-ad];exact y⟩,q2⟩
  rcases Z with⟨u,rfl⟩|⟨u,z,rfl⟩|⟨u,z,q,r,hr⟩
  ·exact⟨8,0,jg,[],.inl ⟨u,rfl,rfl⟩,rfl,rfl,λe=>(by cases e)⟩
  ·exact⟨5,0,jg,[],.inr (.inl ⟨u,z,rfl,rfl⟩),rfl,rfl,λe=>(by cases e)⟩
  ·obtain⟨f,d,p1,D,p3⟩:=OG hs r;rcases hr with⟨i,rfl⟩|⟨i,y,rfl⟩|⟨i,y,ac,H,G⟩
   ·exact⟨d.1,0,d.2,[],.inr (.inr ⟨u,z,f,d,p1,rfl,.inl ⟨by rw[D];exact i,rfl,rfl⟩⟩),D,rfl,λe=>absurd (D.symm.trans e) i⟩
   ·obtain⟨w,Q⟩:=p3 i;have M:=w.ld;rw[Q,T1,Ve] at M;have V:=TU List.length w.ov;rw[Um,TR] at V;exact⟨5,0,d.2,[],.inr (.inr ⟨u,z,f,d,p1,rfl,.inr (.inl ⟨D.trans i,by omega,rfl,rfl⟩)⟩),rfl,rfl,λe=>(by cases e)⟩
   ·obtain⟨w,Q⟩:=p3 i;have M:=w.ld;rw[Q,T1,Ve] at M;have V:=TU List.length w.ov;rw[Um,TR] at V;have ae:q.2.cD=fQ (eb fs j) d.2:=by rw[w.ov,Uh (by rw[TR];omega)];rfl
    have af:=(uC r i).1.tU;have aa:=Mc r i y;rw[ae] at af aa;have ab:=λk I (a:iV (cW (cI fs j).2.2.aV) q.2.cD 0 [] (.inr (k,I))) (b:k<=500)=>KZ r i y (hn z q r i y) a b;rw[ae,hs.nm] at H ab;obtain⟨S,J,E⟩:=EA _ _ _ [] ac H;have v:∀(er o:Nat) (n:List (List ag)),xD S er o n->xp (eb fs j) fs g er o d.2 n:=λ_ _ _ h=> .inr (.inr ⟨u,z,f,d,p1,rfl,.inr (.inr ⟨D.trans i,by omega,S,J,h⟩)⟩)
    match ac,S,E,G,v,J,H with
    | .inl e,.inl e',E,G,v,J,_=>have e1:e=e' :=E;have e2:p=([],e.1,e.2):=G;subst e1 e2;exact⟨e.1,e.2,d.2,[],v _ _ _ ⟨rfl,rfl⟩,rfl,rfl,λq=>absurd q (GB J)⟩
    | .inr (k,I),.inr m,E,G,v,_,H=>
     obtain⟨bA,n1,n2,n3,n4⟩:=E;rw[UI] at n1;cases n1;rw[Ur] at n3;rcases G with⟨R,rfl⟩|⟨R,t2⟩
     ·exact⟨5,0,d.2,m,v _ _ _ ⟨rfl,rfl,.inl ⟨by omega,rfl⟩⟩,rfl,rfl,λe=>(by cases e)⟩
     ·refine⟨0,0,d.2,m,v _ _ _ ⟨rfl,rfl,.inr ⟨by omega,rfl⟩⟩,?_⟩;have aj:I=kM (eb fs j) d.2 m:=by rw[n4 R];rfl
      have ah:m.length=d.2.aW.length:=by rw[n2];unfold fQ;rw[TR]
      have hD:nM (eb fs j) d.2 m:=⟨w.nd,w.lt,af,aa,ah,M,by omega,by omega⟩;obtain⟨pl,O⟩:=ab k I H R;rw[O] at t2;rw[aj] at O;subst t2;exact⟨rfl,rfl,λ_=>⟨O,hD⟩⟩
theorem Ej {fs:List aI}(o:ke fs<=1048576){goal:ag}(h:g_ (fs.foldl Pl.bp []) j goal p):
 ∃er d t a,rp (eb fs j) fs goal er d t a/\er=p.2.1/\d=p.2.2/\(er=0->fB (kM (eb fs j) t a)=some p.1/\nM (eb fs j) t a):=by obtain⟨er,d,t,a,i,m,n,f⟩:=M6 h (Ao o j goal);rw[NX (Cw fs)] at i f;exact⟨er,d,t,a,OM (Cw fs) i,m,n,f⟩
theorem Ct (fs:List aI)(f:ag)(h:(eb fs f).cy=0):∀d∈(eb fs f).aD,d.tg≠[]/\(d.b_=true->(d.tg.headD []).contains 37=true):=λd n=>by obtain⟨i,-,p⟩:=DO fs f;obtain⟨j,-,m,o,-⟩:=(p (i.trans h)).ru d n;refine⟨o,λa=> ?_⟩;rw[j] at a;obtain⟨x,r⟩:=m a;rw[r] at a⊢;unfold eJ dP at a;simp only[VI,List.any_nil,XD,U6] at a;rw[XC,aaV];exact ZI.1 a
theorem v_:∀fs:List aI,fP (fs.map (·.aJ))<=ke fs
 |[]=>TD _
 |f::a=>by have:=v_ a;unfold fP at*;rw[Ug,Ug,XG,ke];omega
theorem yM {fs:List aI}(d:ke fs<=1048576):∀a g,Pl.look fs a=some g->g.aT.length<=1048576:=λa g h=>by have:=uy (Uw h);omega
theorem MY (a:List ag)(fs:List aI)(i j:Int)(v p r o:Option Addr)(D y x z G H E I o1 o2 Z o4:Nat)(w:ax)(h1:0<a.length->v=some ⟨G,o1,none⟩)(M:0<fs.length->p=some ⟨H,o2,none⟩)(h3:0<a.length->r=some ⟨E,Z,none⟩)(R:0<fs.length->o=some ⟨I,o4,none⟩)(r1:na w G o1 a)(r2:dA w H o2 fs)(J:na w E Z a)(r4:dA w I o4 fs)(l1:0<a.length->G<w.heap.size)(l2:0<fs.length->H<w.heap.size)(S:0<a.length->E<w.heap.size)(V:0<fs.length->I<w.heap.size)(hc:a.length<=8388608)(hf:fs.length<=8388608):
 Calls prog 19 #[.agg #[.slice v a.length D,.slice p fs.length y,.int .i64 i,.int .i64 j],.agg #[.slice r a.length x,.slice o fs.length z,.int .i64 i,.int .i64 j]] w λe w'=>e= .returned (.bool true)/\Below w.heap.size w w' :=by
 have H1:=aB h1;have H2:=aB M;have H3:=aB h3;have H4:=aB R;have R1:=aB r1;have R2:=aB r2;have R3:=aB J;have R4:=aB r4;have L1:=aB l1;have L2:=aB l2;have L3:=aB S;have L4:=aB V;clear h1 M h3 R r1 r2 J r4 l1 l2 S V;go_enter func19,ntmps19;go_wp2_with fail
 obtain⟨hx,hy⟩:=PR w 32 32 (.slice v a.length D) (.slice p fs.length y) (.int .i64 i) (.int .i64 j) (.slice r a.length x) (.slice o fs.length z) (.int .i64 i) (.int .i64 j);have d:=aB hx;have f:=aB hy;clear hx hy;generalize ((w.alloc (.cells #[(.slice v a.length D),(.slice p fs.length y),(.int .i64 i),(.int .i64 j)] 32)).alloc (.cells #[(.slice r a.length x),(.slice o fs.length z),(.int .i64 i),(.int .i64 j)] 32))=W0 at*;go_loopw [5] (λn wr=>∃k:Nat,n= .int .i64 k/\k<=a.length/\Hid (Boxed w w.heap.size 32 (.slice v a.length D) (.slice p fs.length y) (.int .i64 i) (.int .i64 j) wr)/\Hid (Boxed w (w.heap.size+1) 32 (.slice r a.length x) (.slice o fs.length z) (.int .i64 i) (.int .i64 j) wr)) (λn _=>a.length-aS n)
 case atStart=>exact⟨0,rfl,TS _,d,f⟩
 case round=>
  clear d f;obtain⟨k,rfl,ac,d,f⟩:=hrel;obtain⟨x0,x1,x2,N⟩:=d.u.cells;obtain⟨y0,y1,y2,Q⟩:=f.u.cells;by_cases hk:k<a.length
  ·obtain rfl:=H1.u (by omega);obtain rfl:=H3.u (by omega);have aa:=R1.u.aL d.u.aL (L1.u (by omega)) k hk;have q:=R3.u.aL d.u.aL (L3.u (by omega)) k hk;generalize a[k]=ad at*;unfold aK at aa q;have t1:(k:Int)<(a.length:Int):=by omega
   go_wp2_with fail
   go_quiet (fail)
   go_wp2_with fail
   go_roundw
   case rel=>exact⟨k+1,by go_num,by omega,d.u.drewN _,f.u.drewN _⟩
   case measure=>simp only[aS];omega
  ·have t1:¬(k:Int)<(a.length:Int):=by omega
   go_wp2_with fail
   clear x0 x1 x2 N y0 y1 y2 Q;go_loopw [6] (λn wr=>∃k:Nat,n= .int .i64 k/\k<=fs.length/\Hid (Boxed w w.heap.size 32 (.slice v a.length D) (.slice p fs.length y) (.int .i64 i) (.int .i64 j) wr)/\Hid (Boxed w (w.heap.size+1) 32 (.slice r a.length x) (.slice o fs.length z) (.int .i64 i) (.int .i64 j) wr)) (λn _=>fs.length-aS n)
   case atStart=>exact⟨0,rfl,TS _,d,f⟩
   case round=>
    clear d f;obtain⟨m,rfl,ab,d,f⟩:=hrel;obtain⟨x0,x1,x2,N⟩:=d.u.cells;obtain⟨y0,y1,y2,Q⟩:=f.u.cells;by_cases O :m <fs.length
    ·obtain rfl:=H2.u (by omega);obtain rfl:=H4.u (by omega);obtain⟨p0,p1,p2⟩:=R2.u.aL d.u.aL (L2.u (by omega)) m O;obtain⟨q0,q1,q2⟩:=R4.u.aL d.u.aL (L4.u (by omega)) m O;generalize fs[m]=fk at*;unfold aK at p0 p1 q0 q1;have t2:(m :Int)<(fs.length:Int):=by omega
     go_wp2_with fail
     go_quiet (fail)
     go_wp2_with fail
     go_roundw
     case rel=>exact⟨m +1,by go_num,by omega,d.u.drewN _,f.u.drewN _⟩
     case measure=>simp only[aS];omega
    ·have t2:¬(m :Int)<(fs.length:Int):=by omega
     go_wp2_with fail
     go_ret;exact⟨rfl,d.u.aL⟩
def qp:ag:=[67,67,32,61,32,99,99,32,36,40,70,41,10,70,32,58,61,32,45,111,10,97,108,108,32,58,32,97,46,111,32,98,10,37,46,111,32,58,32,37,46,99,10,9,36,40,67,67,41,32,36,64,32,36,60,10,98,32,58,10,9,109,107,32,36,64,10]
def dI:List aI:=[⟨[82],qp,0⟩,⟨[97,46,99],[],5⟩,⟨[97,46,111],[],3⟩]
theorem ER (w:ax):Calls prog 13 #[] w λe w'=>e= .returned (.slice (some ⟨w.heap.size,0,none⟩) 3 3)/\dA w' w.heap.size 0 dI/\w.heap.size<w'.heap.size/\Below w.heap.size w w' :=by
 have a:=aG.bA w 89 [.string ⟨#[82]⟩,.string ⟨qp.toArray⟩,.int .i64 0,.string ⟨#[97,46,99]⟩,.string ⟨#[]⟩,.int .i64 5,.string ⟨#[97,46,111]⟩,.string ⟨#[]⟩,.int .i64 3];have d:Below w.heap.size w (w.alloc (.cells #[.string ⟨#[82]⟩,.string ⟨qp.toArray⟩,.int .i64 0,.string ⟨#[97,46,99]⟩,.string ⟨#[]⟩,.int .i64 5,.string ⟨#[97,46,111]⟩,.string ⟨#[]⟩,.int .i64 3] 89)):=aj w _;have j:Hid (dA (w.alloc (.cells #[.string ⟨#[82]⟩,.string ⟨qp.toArray⟩,.int .i64 0,.string ⟨#[97,46,99]⟩,.string ⟨#[]⟩,.int .i64 5,.string ⟨#[97,46,111]⟩,.string ⟨#[]⟩,.int .i64 3] 89)) w.heap.size 0 dI/\w.heap.size<(w.alloc (.cells #[.string ⟨#[82]⟩,.string ⟨qp.toArray⟩,.int .i64 0,.string ⟨#[97,46,99]⟩,.string ⟨#[]⟩,.int .i64 5,.string ⟨#[97,46,111]⟩,.string ⟨#[]⟩,.int .i64 3] 89)).heap.size/\Below w.heap.size w (w.alloc (.cells #[.string ⟨#[82]⟩,.string ⟨qp.toArray⟩,.int .i64 0,.string ⟨#[97,46,99]⟩,.string ⟨#[]⟩,.int .i64 5,.string ⟨#[97,46,111]⟩,.string ⟨#[]⟩,.int .i64 3] 89))):=aB ⟨λf i=>by
  match f,i with
  |0,_=>exact⟨a.cell 0 (by simp),a.cell 1 (by simp),a.cell 2 (by simp)⟩
  |1,_=>exact⟨a.cell 3 (by simp),a.cell 4 (by simp),a.cell 5 (by simp)⟩
  |2,_=>exact⟨a.cell 6 (by simp),a.cell 7 (by simp),a.cell 8 (by simp)⟩,a.lt,d⟩
 clear a d;go_enter func13,ntmps13;go_wp2_with fail
 go_ret;exact⟨rfl,j.u⟩
theorem FO (z:Int)(w:ax):Calls prog 17 #[.int .i64 z] w λe w'=>e= .returned (.int .i64 z)/\w' =w:=by
 go_enter func17,ntmps17;go_wp2_with fail
 go_ret;exact⟨rfl,rfl⟩
theorem rD {L:NL}{t:ag}(f:Nat)(h:dU (cW L) (λ_=>none) f [] 0 [] t=some ⟨j,0,0⟩):dq L t=⟨j,0,0⟩:=GW ⟨f,h⟩
theorem AD {rec:St->ag->Nat×Nat×St}{fs:List aI}{s:St}{op:Option Nat}{l:Ln}{a b:ag}(d:l.cC=5)(f:dq s.aV l.left=⟨a,0,0⟩)(i:dq s.aV l.right=⟨b,0,0⟩)(j:kp (bH a) (bH b)=true)(m:s.n≠64):
 ew rec fs s op l=(0,l.d',bp {s with n:=s.n+1} (bH a) (bH b)):=by unfold ew fW;rw[TJ (by rw[d];decide),TP d,f,i,TJ (by simp),TJ (by simp),TJ (by rw[j];simp),TJ m]
def kN:NL:=[([67,67],⟨[99,99,32,36,40,70,41],true⟩),([70],⟨[45,111],false⟩)]
def Bb:St:={il with aV:=kN}
def Be:St:=(bp {Bb with n:=1} [[97,108,108]] [[97,46,111],[98]]).2
def A8:St:=(bp {Be with n:=2} [[37,46,111]] [[37,46,99]]).2
def A_:St:=(fT A8 (some 1) ⟨5,1,[],[36,40,67,67,41,32,36,64,32,36,60]⟩).2
def Bf:St:=(bp {A_ with n:=3} [[98]] []).2
def kS:St:=(fT Bf (some 2) ⟨7,1,[],[109,107,32,36,64]⟩).2
theorem Pa:cI dI [82]=(0,0,kS):=by
 have p:ed (di qp)=[(⟨1,4,[67,67],[99,99,32,36,40,70,41]⟩,0),(⟨2,3,[70],[45,111]⟩,0),(⟨3,5,[97,108,108],[97,46,111,32,98]⟩,0),(⟨4,5,[37,46,111],[37,46,99]⟩,0),(⟨5,1,[],[36,40,67,67,41,32,36,64,32,36,60]⟩,0),(⟨6,5,[98],[]⟩,0),(⟨7,1,[],[109,107,32,36,64]⟩,0)]:=by rfl
 show iY dI 3 il qp=_;rw[iY,p];generalize iY dI 2=rec;have i:ew rec dI il none ⟨1,4,[67,67],[99,99,32,36,40,70,41]⟩=(0,1,none,{il with aV:=[([67,67],⟨[99,99,32,36,40,70,41],true⟩)]}):=rfl;have r:dq [([67,67],⟨[99,99,32,36,40,70,41],true⟩)] [45,111]=⟨[45,111],0,0⟩:=rD 1 rfl;have f:ew rec dI {il with aV:=[([67,67],⟨[99,99,32,36,40,70,41],true⟩)]} none ⟨2,3,[70],[45,111]⟩=(0,2,none,Bb):=by unfold ew gW;rw[TJ (by decide),TJ (by decide),TJ (by decide),TJ (by decide)];simp only[r];rfl
 have o:ew rec dI Bb none ⟨3,5,[97,108,108],[97,46,111,32,98]⟩=(0,3,some 0,Be):=AD (a:=[97,108,108]) (b:=[97,46,111,32,98]) rfl (rD 1 rfl) (rD 1 rfl) rfl (by decide);have d:ew rec dI Be (some 0) ⟨4,5,[37,46,111],[37,46,99]⟩=(0,4,some 1,A8):=AD (a:=[37,46,111]) (b:=[37,46,99]) rfl (rD 1 rfl) (rD 1 rfl) rfl (by decide);have n:ew rec dI A8 (some 1) ⟨5,1,[],[36,40,67,67,41,32,36,64,32,36,60]⟩=(0,5,some 1,A_):=rfl;have m:ew rec dI A_ (some 1) ⟨6,5,[98],[]⟩=(0,6,some 2,Bf):=AD (a:=[98]) (b:=[]) rfl (rD 1 rfl) (rD 1 rfl) rfl (by decide);have j:ew rec dI Bf (some 2) ⟨7,1,[],[109,107,32,36,64]⟩=(0,7,some 2,kS):=rfl;rw[iq,TJ (by simp),TJ (by rw[i];simp),i,iq,TJ (by simp),TJ (by rw[f];simp),f,iq,TJ (by simp),TJ (by rw[o];simp),o,iq,TJ (by simp),TJ (by rw[d];simp),d,iq,TJ (by simp),TJ (by rw[n];simp),n,iq,TJ (by simp),TJ (by rw[m];simp),m,iq,TJ (by simp),TJ (by rw[j];simp),j,iq]
def kO:List cA:=[⟨[97,46,99],false,[],[],[]⟩,⟨[97,46,111],false,[[97,46,99]],[97],[([36,40,67,67,41,32,36,64,32,36,60],5)]⟩,⟨[98],false,[],[],[([109,107,32,36,64],7)]⟩,⟨[97,108,108],false,[[97,46,111],[98]],[],[]⟩]
def kY:List bP:=[⟨[97,46,99],false,[],[],[]⟩,⟨[97,46,111],false,[[97,46,99]],[97],[[99,99,32,45,111,32,97,46,111,32,97,46,99]]⟩,⟨[98],false,[],[],[[109,107,32,98]]⟩,⟨[97,108,108],false,[[97,46,111],[98]],[],[]⟩]
theorem Ih {s:St}{fs:List aI}{us:List (Nat×List ag)}:∀(n:Nat) {m:Nat} {j q i:Nat×cE},dL s fs us n j=some q->dL s fs us m j=some i->q=i
 |0,m,j,q,i,d,a=>by
  rw[dL] at d;split at d
  ·rename_i f;cases m with
   |zero=>rw[dL,TP f] at a;rw[<-UX d,<-UX a]
   |succ m=>rw[dL,TP f] at a;rw[<-UX d,<-UX a]
  ·cases d
 |n+1,m,j,q,i,d,a=>by
  rw[dL] at d;split at d
  ·rename_i f;cases m with
   |zero=>rw[dL,TP f] at a;rw[<-UX d,<-UX a]
   |succ m=>rw[dL,TP f] at a;rw[<-UX d,<-UX a]
  ·rename_i f;cases m with
   |zero=>rw[dL,TJ f] at a;cases a
   |succ m=>rw[dL,TJ f] at a;exact Ih n d a
theorem PC {q:Nat×cE}(h:gM kS dI (cB kS dI kS.bD) (dB kS dI (cB kS dI kS.bD) gi [97,108,108]) q):q.1=0/\q.2.cD=kO:=by
 obtain⟨m,f⟩:=h;have a:(dL kS dI (cB kS dI kS.bD) 20 (dB kS dI (cB kS dI kS.bD) gi [97,108,108])).map (λq=>(q.1,q.2.cD))=some (0,kO):=by rfl
 cases d:dL kS dI (cB kS dI kS.bD) 20 (dB kS dI (cB kS dI kS.bD) gi [97,108,108]) with
 |none=>rw[d] at a;cases a
 |some i=>rw[d] at a;obtain rfl:=Ih _ d f;have:=UX a;exact⟨TU Prod.fst this,TU Prod.snd this⟩
theorem E9:∃a,fB kY=some a:=by
 have h:(fB kY).isSome=true:=by decide
 cases d:fB kY with
 |none=>rw[d] at h;cases h
 |some a=>exact⟨a,rfl⟩
theorem Ii {N:ag->Nv}{c:ag×Nat}{k f n:Nat}{t:ag}{d:(Nat×Nat)⊕(Nat×List ag)}(h:jw N u [c] k [] d)(i:dU N u f [] 0 [] c.1=some ⟨t,0,n⟩)(o:Mk.cut t≠[])(j:k+1<=500):d= .inr (k+1,[t]):=by obtain⟨e,m,a⟩:=h;obtain rfl:=m.kC ⟨f,i⟩;rw[TJ (by simp),TJ o,TP j] at a;exact a
theorem My (h:iV (cW kS.aV) kO 0 [] H):H= .inr (2,kY):=by obtain⟨m,j,h⟩:=h;have i:m= .inr (0,[]):=j;subst i;obtain⟨u,d,h⟩:=h;obtain rfl:=Ii (f:=20) (n:=2) (t:=[99,99,32,45,111,32,97,46,111,32,97,46,99]) d rfl (by decide) (by decide);obtain⟨v,r,h⟩:=h;obtain rfl:=Ii (f:=20) (n:=0) (t:=[109,107,32,98]) r rfl (by decide) (by decide);obtain⟨p,a,h⟩:=h;have o:p= .inr (2,[]):=a;subst o;exact h
theorem N8 (h:g_ dI [82] [] p):∃d,fB kY=some d/\p=(d,0,0):=by
 obtain⟨d,f⟩:=E9;refine⟨d,f,?_⟩;unfold g_ at h;rw[Pa] at h;rcases h with⟨a,-⟩|⟨-,h⟩
 ·exact absurd rfl a
 ·have n:fX kS []=[97,108,108]:=rfl;simp only at h;rw[n] at h;rcases h with⟨a,-⟩|⟨-,a,-⟩|⟨-,-,q,i,h⟩
  ·cases a
  ·exact absurd a (by decide)
  ·obtain⟨m,o⟩:=PC i;rw[o] at h;rcases h with⟨a,-⟩|⟨-,a,-⟩|⟨-,-,r,j,h⟩
   ·exact absurd m a
   ·exact absurd a (by decide)
   ·obtain rfl:=My j;rcases h with⟨a,-⟩|⟨-,h⟩
    ·exact absurd a (by decide)
    ·rw[f] at h;exact h
theorem OB:dI.foldl Pl.bp []=dI:=rfl
def Iz:List ag:=[[99,99,32,45,111,32,97,46,111,32,97,46,99],[109,107,32,98]]
theorem Eh:(kY.map (·.name)).Nodup/\Aq kY:=by
 refine⟨by decide,λf d n a=> ?_⟩
 match f,d with
 |0,_=>cases a
 |1,_=>obtain rfl:=TL.1 a;exact⟨0,by omega,rfl⟩
 |2,_=>cases a
 |3,_=>
  rcases Ue.1 a with rfl|a
  ·exact⟨1,by omega,rfl⟩
  ·obtain rfl:=TL.1 a;exact⟨2,by omega,rfl⟩
theorem Oh:(oP [] kY [] (gQ dI 10)).aH=Iz:=by rfl
theorem P1 (h:fB kY=some j):∃T c,Pl.load j=some (T,c)/\kK j/\(jC c T [] (gQ dI 10)).aH=Iz:=by obtain⟨T,c,d,a,f⟩:=Eu h Eh.1 Eh.2;exact⟨T,c,d,a,by rw[f [] _ rfl,Oh]⟩
theorem KF (aJ goal p0 V:ag)(a ao ae:Option Addr)(n cap no co m ce R N Q I:Nat)(aP O H M S:Int)(w:ax)(G D:ax->Nat->Prop)(R1 Z:ax->Option Addr->Nat->Option Addr->Nat->Prop)(s1 s2:az)(u1:s1.toList=[99,99,32,45,111,32,97,46,111,32,97,46,99])(u2:s2.toList=[109,107,32,98])(K1:Hid (∀W,Calls prog 13 #[] W λe w'=>e= .returned (.slice (some ⟨W.heap.size,0,none⟩) 3 3)/\dA w' W.heap.size 0 dI/\W.heap.size<w'.heap.size/\Below W.heap.size W w'))(K2:Hid (∀W b,dA W b 0 dI->b<W.heap.size->Calls prog 12 #[.slice (some ⟨b,0,none⟩) 3 3] W λe w'=>e= .returned (.slice (some ⟨W.heap.size,0,none⟩) 3 11)/\dA w' W.heap.size 0 dI/\W.heap.size<w'.heap.size/\Below W.heap.size W w'))(K3:Hid (∀W b,Below w.heap.size w W->dA W b 0 dI->b<W.heap.size->Calls prog 11 #[.slice (some ⟨b,0,none⟩) 3 11,.string ⟨#[82]⟩,.string ⟨#[]⟩] W λe w'=>e= .returned (.tuple #[.string ⟨p0.toArray⟩,.int .i64 0,.int .i64 0])/\Below W.heap.size W w'))(K4:Hid (∀W b,dA W b 0 dI->b<W.heap.size->Calls prog 14 #[.string ⟨p0.toArray⟩,.slice (some ⟨b,0,none⟩) 3 3,.slice none 0 0,.int .i64 10] W λe w'=>∃f J i n2 d ex ck,e= .returned (.tuple #[.agg #[.slice (some ⟨J,0,none⟩) 2 f,.slice i n2 d,.int .i64 ex,.int .i64 ck],.int .i64 0])/\w'.cell? ⟨J,0,none⟩=some (.string s1)/\w'.cell? ⟨J,1,none⟩=some (.string s2)/\J<w'.heap.size/\Below W.heap.size W w'))(GL:Hid (∀W b X,G W b->Below W.heap.size W X->G X b))(C1:Hid (∀W,Below w.heap.size w W->Calls prog 12 #[.slice a n cap] W λe w'=>∃o,e= .returned (.slice (some ⟨o,0,none⟩) n (n+8))/\G w' o/\Below W.heap.size W w'))(C2:Hid (∀W b,Below w.heap.size w W->G W b->Calls prog 11 #[.slice (some ⟨b,0,none⟩) n (n+8),.string ⟨aJ.toArray⟩,.string ⟨goal.toArray⟩] W λe w'=>e= .returned (.tuple #[.string ⟨V.toArray⟩,.int .i64 0,.int .i64 0])/\Below W.heap.size W w'))(C3:Hid (∀W,Below w.heap.size w W->Calls prog 15 #[.slice a n cap,.string ⟨aJ.toArray⟩,.string ⟨goal.toArray⟩] W λe w'=>∃wb,e= .returned (.pointer (some ⟨wb,0,none⟩))/\Below W.heap.size W w' /\wb<w'.heap.size/\w'.cell? ⟨wb,3,none⟩=some (.int .i64 0)/\w'.cell? ⟨wb,4,none⟩=some (.int .i64 0)/\D w' wb))(C4:Hid (∀W b,Below w.heap.size w W->G W b->Calls prog 16 #[.slice (some ⟨b,0,none⟩) n (n+8),.slice a n cap] W λe w'=>e= .returned (.bool true)/\Below W.heap.size W w'))(DL:Hid (∀W b X,D W b->Below W.heap.size W X->D X b))(L1:Hid (∀W p f i d X,R1 W p f i d->Below W.heap.size W X->R1 X p f i d))(U1:Hid (∀W,Below w.heap.size w W->Calls prog 14 #[.string ⟨V.toArray⟩,.slice a n cap,.slice ae m ce,.int .i64 aP] W λe w'=>∃p f i d,e= .returned (.tuple #[.agg #[.slice p R f,.slice i Q d,.int .i64 O,.int .i64 M],.int .i64 0])/\R1 w' p f i d/\Below W.heap.size W w'))(V1:Hid (∀W wb,Below w.heap.size w W->D W wb->Calls prog 18 #[.pointer (some ⟨wb,0,none⟩),.slice a n cap,.slice ae m ce,.int .i64 aP] W λe w'=>∃p f i d,e= .returned (.agg #[.slice p R f,.slice i Q d,.int .i64 O,.int .i64 M])/\R1 w' p f i d/\Below W.heap.size W w'))(E1:Hid (∀W p f i d a3 c3 a4 c4,R1 W p f i d->R1 W a3 c3 a4 c4->Calls prog 19 #[.agg #[.slice p R f,.slice i Q d,.int .i64 O,.int .i64 M],.agg #[.slice a3 R c3,.slice a4 Q c4,.int .i64 O,.int .i64 M]] W λe w'=>e= .returned (.bool true)/\Below W.heap.size W w'))(L2:Hid (∀W p f i d X,Z W p f i d->Below W.heap.size W X->Z X p f i d))(U2:Hid (∀W,Below w.heap.size w W->Calls prog 14 #[.string ⟨V.toArray⟩,.slice ao no co,.slice ae m ce,.int .i64 aP] W λe w'=>∃p f i d,e= .returned (.tuple #[.agg #[.slice p N f,.slice i I d,.int .i64 H,.int .i64 S],.int .i64 0])/\Z w' p f i d/\Below W.heap.size W w'))(V2:Hid (∀W wb,Below w.heap.size w W->D W wb->Calls prog 18 #[.pointer (some ⟨wb,0,none⟩),.slice ao no co,.slice ae m ce,.int .i64 aP] W λe w'=>∃p f i d,e= .returned (.agg #[.slice p N f,.slice i I d,.int .i64 H,.int .i64 S])/\Z w' p f i d/\Below W.heap.size W w'))(E2:Hid (∀W p f i d a3 c3 a4 c4,Z W p f i d->Z W a3 c3 a4 c4->Calls prog 19 #[.agg #[.slice p N f,.slice i I d,.int .i64 H,.int .i64 S],.agg #[.slice a3 N c3,.slice a4 I c4,.int .i64 H,.int .i64 S]] W λe w'=>e= .returned (.bool true)/\Below W.heap.size W w')):
 Calls prog 3 #[.slice a n cap,.string ⟨aJ.toArray⟩,.string ⟨goal.toArray⟩,.slice ao no co,.slice ae m ce,.int .i64 aP] w λe w'=>e= .returned (.bool true)/\Below w.heap.size w w' :=by
 have aH :=aB K1.u;have C0:=aB (λz W=>FO z W);go_enter func3,ntmps3;go_upto_region 9 with(first|(go_at_call 13;refine(K1.u _).mono ?_;rintro e w1 ⟨rfl,aM,aQ,bz⟩;have bn:=aB bz;have aY:=aB aM;have a6:=aB aQ;clear bz aM aQ K1)|(go_at_call 12;refine(K2.u _ _ aY.u a6.u).mono ?_;rintro e w2 ⟨rfl,av,bc,a5⟩;have am:=aB (bn.u.tr a5);have aX:=aB av;have a':=aB bc;clear a5 av bc K2 bn aY a6)|(go_at_call 11;refine(K3.u _ _ am.u aX.u a'.u).mono ?_;rintro e w3 ⟨rfl,a9⟩;have ba:=aB (am.u.tr a9);clear a9 K3 am aX a')|(go_at_call 13;refine(aH.u _).mono ?_;rintro e w4 ⟨rfl,br,bh,bx⟩;have bp:=aB (ba.u.tr bx);have aN:=aB br;have aS:=aB bh;clear bx br bh aH ba)|(go_at_call 14;refine(K4.u _ _ aN.u aS.u).mono ?_;rintro e w5 ⟨f,J,i,n2,d,ex,ck,rfl,p1,p2,aq,bu⟩;have r:Below w5.heap.size w5 (w5.alloc (.cells #[.slice (some ⟨J,0,none⟩) 2 f,.slice i n2 d,.int .i64 ex,.int .i64 ck] 32)):=aj _ _;have p3:=(r.cell (p:=⟨J,0,none⟩) aq).trans p1;have p4:=(r.cell (p:=⟨J,1,none⟩) aq).trans p2;have bw:=bp.u.tr bu;have ar:=aB (bw.tr r);clear bu r aq bw p1 p2 K4 bp aN aS)|(go_at_call 12;refine(C1.u _ ar.u).mono ?_;rintro e w6 ⟨bE,rfl,bl,bd⟩;have ah:=aB (ar.u.tr bd);have ac:=aB bl;clear bd bl C1 ar)|(go_at_call 11;refine(C2.u _ _ ah.u ac.u).mono ?_;rintro e w7 ⟨rfl,au⟩;have ap:=aB (ah.u.tr au);have aA:=aB (GL.u _ _ _ ac.u au);clear au C2 ah ac)|(go_at_call 15;refine(C3.u _ ap.u).mono ?_;rintro e w8 ⟨wb,rfl,af,aw,q3,q4,a7⟩;have an:=aB (ap.u.tr af);have aU:=aB (GL.u _ _ _ aA.u af);have Q3:=aB q3;have Q4:=aB q4;have aC:=aB a7;clear af q3 q4 a7 C3 ap aA)|(go_at_call 16;refine(C4.u _ _ an.u aU.u).mono ?_;rintro e w9 ⟨rfl,aa⟩;have ab:=aB (an.u.tr aa);have q3:=(aa.cell (p:=⟨wb,3,none⟩) aw).trans Q3.u;have q4:=(aa.cell (p:=⟨wb,4,none⟩) aw).trans Q4.u;have bt:=aB (DL.u _ _ _ aC.u aa);clear aa C4 an aU Q3 Q4 aC)|fail)
 go_quiet (first|(go_at_call 17;exact V_ (C0.u _ _)))
 go_wp2_with (first|(go_at_call 14;refine(U1.u _ (Below.drewN ab.u _)).mono ?_;rintro e z1 ⟨d1,d2,d3,d4,rfl,E,o⟩;have r:Below z1.heap.size z1 (z1.alloc (.cells #[.slice d1 R d2,.slice d3 Q d4,.int .i64 O,.int .i64 M] 32)):=aj _ _;have y:=aG.bA z1 32 [.slice d1 R d2,.slice d3 Q d4,.int .i64 O,.int .i64 M];have j:=o.tr r;have ai:=aB ((Below.drewN ab.u _).trans (j.mono (Below.drewN ab.u _).size));have a8:=aB (DL.u _ _ _ (DL.u _ _ _ bt.u (Below.drewN (TF _ _) _)) j);have bo:=aB y;have aD:=aB (L1.u _ _ _ _ _ _ E r);clear E o r y j ab bt U1)|(go_at_call 14;refine(U2.u _ ai.u).mono ?_;rintro e z2 ⟨e1,e2,e3,e4,rfl,E,o⟩;have r:Below z2.heap.size z2 (z2.alloc (.cells #[.slice e1 N e2,.slice e3 I e4,.int .i64 H,.int .i64 S] 32)):=aj _ _;have y:=aG.bA z2 32 [.slice e1 N e2,.slice e3 I e4,.int .i64 H,.int .i64 S];have j:=o.tr r;have al:=aB (ai.u.tr j);have ad:=aB (DL.u _ _ _ a8.u j);have aK:=aB y;have aW:=aB (L2.u _ _ _ _ _ _ E r);have bj:=aB (bo.u.aE j);have bk:=aB (L1.u _ _ _ _ _ _ aD.u j);clear E o r y j ai a8 bo aD U2)|(go_at_call 18;refine(V1.u _ _ al.u ad.u).mono ?_;rintro e z3 ⟨f1,f2,f3,f4,rfl,E,o⟩;have r:Below z3.heap.size z3 (z3.alloc (.cells #[.slice f1 R f2,.slice f3 Q f4,.int .i64 O,.int .i64 M] 32)):=aj _ _;have y:=aG.bA z3 32 [.slice f1 R f2,.slice f3 Q f4,.int .i64 O,.int .i64 M];have j:=o.tr r;have ak:=aB (al.u.tr j);have aV:=aB (DL.u _ _ _ ad.u j);have be:=aB y;have aZ:=aB (L1.u _ _ _ _ _ _ E r);have bB:=aB (bj.u.aE j);have aF:=aB (L1.u _ _ _ _ _ _ bk.u j);have bC:=aB (aK.u.aE j);have bq:=aB (L2.u _ _ _ _ _ _ aW.u j);clear E o r y j al ad bj bk aK aW V1)|(go_at_call 18;refine(V2.u _ _ ak.u aV.u).mono ?_;rintro e z4 ⟨g1,g2,g3,g4,rfl,E,o⟩;have r:Below z4.heap.size z4 (z4.alloc (.cells #[.slice g1 N g2,.slice g3 I g4,.int .i64 H,.int .i64 S] 32)):=aj _ _;have y:=aG.bA z4 32 [.slice g1 N g2,.slice g3 I g4,.int .i64 H,.int .i64 S];have j:=o.tr r;have aT:=aB (ak.u.tr j);have aO:=aB y;have a_:=aB (L2.u _ _ _ _ _ _ E r);have v:=bB.u.aE j;have x:=be.u.aE j;have m0:=v.cell 0 (by simp);have m1:=v.cell 1 (by simp);have m2:=v.cell 2 (by simp);have m3:=v.cell 3 (by simp);have o0:=x.cell 0 (by simp);have o1:=x.cell 1 (by simp);have o2:=x.cell 2 (by simp);have o3:=x.cell 3 (by simp);simp only[TG,TI] at m0 m1 m2 m3 o0 o1 o2 o3;have bv:=aB (L1.u _ _ _ _ _ _ aF.u j);have aR:=aB (L1.u _ _ _ _ _ _ aZ.u j);have a0:=aB (bC.u.aE j);have bm:=aB (L2.u _ _ _ _ _ _ bq.u j);clear v x;clear E o r y j ak aV bB aF be aZ bC bq V2)|(go_at_call 19;refine(E1.u _ _ _ _ _ _ _ _ _ bv.u aR.u).mono ?_;rintro e z5 ⟨rfl,o⟩;have bg:=aB (aT.u.tr o);clear m0 m1 m2 m3 o0 o1 o2 o3;have v:=a0.u.aE o;have x:=aO.u.aE o;have m0:=v.cell 0 (by simp);have m1:=v.cell 1 (by simp);have m2:=v.cell 2 (by simp);have m3:=v.cell 3 (by simp);have o0:=x.cell 0 (by simp);have o1:=x.cell 1 (by simp);have o2:=x.cell 2 (by simp);have o3:=x.cell 3 (by simp);simp only[TG,TI] at m0 m1 m2 m3 o0 o1 o2 o3;have aL:=aB (L2.u _ _ _ _ _ _ bm.u o);have bs:=aB (L2.u _ _ _ _ _ _ a_.u o);clear v x o aT bv aR a0 bm aO a_ E1)|(go_at_call 19;refine(E2.u _ _ _ _ _ _ _ _ _ aL.u bs.u).mono ?_;rintro e z6 ⟨rfl,o⟩;have bD:=aB (bg.u.tr o);clear m0 m1 m2 m3 o0 o1 o2 o3 o bg aL bs E2)|fail)
 go_ret;exact⟨rfl,bD.u⟩
end Go.Proofs.YtjelacjggijmfaaGreatDoor
namespace Go.Mk
open Pl Mk Cp Proofs.Tryz
theorem yj:∀(xs:List Bs) (k:Nat),([32].intercalate (xs.take k)).length<=([32].intercalate xs).length
 |[],k=>by simp
 |[x],k=>by
  cases k with
  |zero=>simp|succ k=>simp
 |x::y::a,k=>by
  match k with
  |0=>simp|1=>simp only[Xk,List.take_zero,ND,vW];simp
  |k+2=>have h:=yj (y::a) (k+1);simp only[Xk] at h⊢;simp only[vW,TE,TK];omega
theorem Da:∀(xs:List Bs) (x:Bs),[32].intercalate (xs++[x])=if xs.isEmpty then x else [32].intercalate xs++[32]++x
 |[],x=>by simp
 |[y],x=>by simp
 |y::z::a,x=>by have h:=Da (z::a) x;simp only[UE] at h⊢;rw[vW,vW,h];simp
theorem Lv (xs:List Bs)(k:Nat)(a:k<xs.length):[32].intercalate (xs.take (k+1))=if k=0 then xs[k] else [32].intercalate (xs.take k)++[32]++xs[k]:=by
 rw[TW a,Da];cases k with
 |zero=>simp
 |succ k=>
  have:(xs.take (k+1)).isEmpty=false:=by rw[V9,<-Uy];simp;omega
  rw[this];simp
end Go.Mk
namespace Go.Proofs.YtjelacjggijmfaaGreatDoor
open Pl Mk Cp Proofs.Tryz
open RowKit
theorem Nq {v:ay}{xs:List ag}{w:ax}(h:e_ w v xs)(R:([32].intercalate xs).length<=4294967296)(hn:xs.length<=4294967296):
 Calls prog 71 #[v] w λe w'=>e= .returned (.string ⟨([32].intercalate xs).toArray⟩)/\w=w' :=by
 obtain⟨a,cap,g,G,rfl,i,I⟩:=h;have D:∀(k:Nat) (x:ag),k<xs.length->xs[k]?=some x->w.cell? ⟨g,G+k,none⟩=some (.string ⟨x.toArray⟩):=by intro k x N hx;rw[I k N,(TZ.1 hx).2];rfl
 have J:0<xs.length->a=some ⟨g,G,none⟩:=λe=>(i e).1;clear i I;generalize S:xs.length=n at hn D J⊢;have H:=aB S;clear S;have Q:=aB R;clear R;go_enter func71,ntmps71;go_wp2
 go_loop [3,4] (λs E=>∃k:Nat,k<=n/\E= .int .i64 k/\s= .string ⟨([32].intercalate (xs.take k)).toArray⟩) (λ_ E=>n-(intOf E).toNat)
 case atStart=>exact⟨0,TS _,rfl,rfl⟩
 case round=>
  obtain⟨k,N,rfl,rfl⟩:=hrel;by_cases M:k<n
  ·have o:k<xs.length:=by rw[H.u];exact M
   have d:=aB (Lv xs k o);have z:=D k xs[k] M (TH o);obtain rfl:=J (by omega);have y:([32].intercalate (xs.take k)).length<=4294967296:=TT (yj xs k) Q.u;have f:([32].intercalate (xs.take (k+1))).length<=4294967296:=TT (yj xs (k+1)) Q.u;rw[d.u] at f;clear D;have r:=aB (show k=0->[32].intercalate (xs.take k)=[] from λh=>by rw[h];rfl);generalize [32].intercalate (xs.take k)=Z at d y f r⊢;generalize xs[k]=x at d f z;obtain⟨P,j⟩:∃P:az,P=⟨Z.toArray⟩:=⟨_,rfl⟩;obtain⟨X,m⟩:∃X:az,X=⟨x.toArray⟩:=⟨_,rfl⟩;have aa:P.size<=4294967296:=by rw[j,eh];exact y
   have ab:X.size<=4294967296:=by
    rw[m,eh];refine TT ?_ f;split
    ·exact TD _
    ·simp;omega
   have V:Hid (∀p:Nat,p=k+1->([32].intercalate (xs.take p))=P.data.toList++(if k=0 then [] else [32])++X.data.toList):=by
    intro p i;rw[i,d.u,j,m];split
    ·rw[r.u (by assumption)];simp
    ·rfl
   rw[<-m] at z;rw[<-j];clear r j m d y f o;by_cases O:k=0
   ·subst O;rw[Ve] at z;go_wp2
    refine⟨⟨1,by omega,rfl,?_⟩,by simp[intOf];omega⟩;rw[V.u 1 rfl];exact TU Value.string (ie (by simp))
   ·have ac:(0:Int)<(k:Int):=by omega
    go_wp2
    refine⟨⟨k+1,by omega,by go_num,?_⟩,by simp[intOf];omega⟩;rw[V.u (k+1) rfl,TJ O];exact TU Value.string (ie (by simp))
  ·have HK:=aB (show xs.take k=xs from Uh (by have:=H.u;omega));go_wp2
   go_ret;exact⟨pa (by rw[HK.u]),rfl⟩
variable {z:List ay}
theorem uk {w:ax}{q t B e s n:Nat}{xs:List ay}{v:ay}(h:aG w q t z)(i:w.ownsRow B e s v n xs)(j:t≠e):some q≠v.ownBlock:=by
 intro d;rcases i.2 with⟨rfl,_⟩|⟨g,cap,m,rfl,_,a,_⟩
 ·cases d
 ·have f:q=g:=by simpa [Value.ownBlock] using d
  subst f;unfold aG at h;rw[h] at a;simp at a;exact j a.2
theorem PH {w:ax}{B C e s n:Nat}{v:ay}{xs:List ay}(h:w.ownsRow B e s v n xs)(a:C<=B):w.ownsRow C e s v n xs:=by
 refine⟨h.1,?_⟩;rcases h.2 with h1|⟨g,cap,cur,h1,h2,h3,h4⟩
 ·exact .inl h1
 ·exact .inr ⟨g,cap,cur,h1,TT a h2,h3,h4⟩
theorem Q6 {b:Bk}{fs:List aI}{name:ag}(h:∀d∈b.aD,d.nd.length<=2000):(qL b fs name).1.aF.length<=2000:=by
 have i:∀a,(b.aD.getD a cQ).nd.length<=2000:=λa=>by
  rw[TO];cases j:b.aD[a]? with
  |none=>exact TS _
  |some d=>exact h d (Vw j)
 unfold qL;by_cases f:fD b.aD name (-1)=none/\ft b name=false
 ·rw[TP f];cases jD b fs name with
  |none=>exact TS _
  |some a=>have:=qP ((b.aD.getD a cQ).nd.map λn=>cH n (fN ((b.aD.getD a cQ).tg.headD []) name)) [];rw[TR,T1] at this;have m:=i a;show(List.foldl cX [] _).length<=2000;omega
 ·rw[TJ f];exact TS _
variable {n O:ax}
theorem Mp {wr:ax}{v u:ay}{nb q t:Nat}(i:wr.grownBy n v.ownBlock)(d:q<wr.heap.size)(a:some q≠v.ownBlock)(f:q≠nb)(h:aG wr q t z):aG (n.setCell ⟨nb,1,none⟩ u) q t z:=((T5 _ _ _ _ f).trans (i.block q d a)).trans h
theorem ED (a name:ag):(fN a name).length<=name.length:=by
 unfold fN;split
 ·exact TS _
 ·split
  ·rw[Um,UM];omega
  ·exact TS _
theorem O8 {W:ax}{bb:Nat}{fs:List aI}{b:Bk}(hV:mh W bb fs b)(hS:mi b)(bX:∀d∈b.aD,d.tg≠[]/\(d.b_=true->(d.tg.headD []).contains 37=true))(cr:fs.length<=16777216)(name:ag)(cY:name.length<=1073741000):
 Calls prog 70 #[.pointer (some ⟨bb,0,none⟩),.string ⟨name.toArray⟩] W λe W'=>If b fs name W e W' :=by
 have HV:=aB hV;have HS:=aB hS;have cJ:=aB bX;have dc:=hS.gG;have be:=aB hS.aD;have cF:=hV.lt;have CO:Hid (∀j,Below W.heap.size W j->Calls prog 109 #[.pointer (some ⟨bb,0,none⟩),.string ⟨name.toArray⟩,.int .i64 (-1)] j λe W'=>e= .returned (gI (fD b.aD name (-1)))/\Below j.heap.size j W'):=λj hb=>DY (hV.aE hb) hS name (-1);have CP:Hid (∀j,Below W.heap.size W j->Calls prog 110 #[.pointer (some ⟨bb,0,none⟩),.string ⟨name.toArray⟩] j λe W'=>e= .returned (.bool (ft b name))/\W' =j):=λj hb=>Md (hV.aE hb) hS name;have CA:Hid (∀j,Below W.heap.size W j->Calls prog 111 #[.pointer (some ⟨bb,0,none⟩),.string ⟨name.toArray⟩] j λe W'=>e= .returned (.bool (jT b name))/\W' =j):=λj hb=>Fo (hV.aE hb) hS name;have CF:Hid (∀j,Below W.heap.size W j->∃af cf,j.cell? ⟨bb,0,none⟩=some (.slice af fs.length cf)/\Calls prog 45 #[.slice af fs.length cf,.string ⟨name.toArray⟩] j λe w'=>e= .returned (.int .i64 (iG fs name))/\w' =j):=λj hb=>by obtain⟨af,cf,bf,nW,I,cu,cI⟩:=(hV.aE hb).aX;exact⟨af,cf,I,(n_ fs name af cf bf nW j (λe=>(cu e).1) cI (by omega)).mono λe w' h=>⟨h.1,h.2.symm⟩⟩
 have r:Hid (qL b fs name=if fD b.aD name (-1)=none/\ft b name=false then
  match jD b fs name with
  |some f=>(⟨name,((b.aD.getD f cQ).nd.map λn=>cH n (fN ((b.aD.getD f cQ).tg.headD []) name)).foldl cX [],some f,fN ((b.aD.getD f cQ).tg.headD []) name,ft b name⟩,true)|none=>(⟨name,[],none,[],ft b name⟩,jT b name||(ft b name||(Pl.look fs name).isSome))
 else(⟨name,[],fD b.aD name (-1),[],ft b name⟩,jT b name||(ft b name||(Pl.look fs name).isSome))):=rfl
 have cW:Hid (∀n,fD b.aD name (-1)=some n->(n:Int)<64):=λn hn=>by have:=VE.1 (Uw hn);omega
 have bW:=aB (oY (fs:=fs) (p:=name));clear hV hS bX;unfold gI at CO;generalize c5:fD b.aD name (-1)=bI at*;generalize bZ:ft b name=ph at*;generalize cV:jT b name=ai at*;obtain⟨I,bp⟩:∃I,I=(ai||(ph||(Pl.look fs name).isSome)):=⟨_,rfl⟩;rw[<-bp] at r;have a0:=aB bp;clear bp;go_enter func70,ntmps70;go_upto_region 1 with fail
 have ce:=(TF W.heap.size W).alloc ak (.cells #[.string ⟨#[]⟩,.slice none 0 0,.int .i64 0,.string ⟨#[]⟩,.bool false,.bool false,.slice none 0 0] 116);have cc:=aB (aG.bA W 116 AS);have bw:=aB ce;clear ce;go_upto_region 3 with(first|(go_at_call 109;refine(CO.u _ bw.u).mono ?_;rintro e j ⟨rfl,bF⟩;have aR:=aB (bw.u.trans (bF.mono (by rw[TM];omega)));have bv:=aB (cc.u.aE bF);clear bF)|(go_at_call 110;refine(CP.u _ aR.u).mono ?_;rintro e w2 ⟨rfl,rfl⟩)|(go_at_call 111;refine(CA.u _ (aR.u.alloc aR.u.size _)).mono ?_;rintro e w3 ⟨rfl,rfl⟩)|fail)
 have cC:=bv.u.lt;have J:Hid (iR W w2.heap.size (w2.heap.size+1) ⟨name,[],bI,[],ph⟩ (.slice none 0 0) (w2.alloc (.cells #[.string ⟨name.toArray⟩,.slice none 0 0,.int .i64 (im bI),.string ⟨#[]⟩,.bool ph,.bool false,.slice none 0 0] 116))):=aB ⟨aR.u.alloc aR.u.size _,bv.u.aE (aj _ _),aG.bA w2 116 (dw ⟨name,[],bI,[],ph⟩ (.slice none 0 0)),Uk _ _ _ _,cC,V7 _,by rw[TM];exact TD _⟩;generalize (w2.alloc (.cells #[.string ⟨name.toArray⟩,.slice none 0 0,.int .i64 (im bI),.string ⟨#[]⟩,.bool ph,.bool false,.slice none 0 0] 116))=w3 at*;generalize w2.heap.size=y at*;clear aR bv bw cc CO CP CA;have p4:=J.u.dt.cell 4 (by simp[dw]);simp only[dw,TG,TI] at p4;obtain⟨af,cf,g0,bK⟩:=CF.u w3 J.u.aL;have a7:=aB bK;clear bK CF;go_cut [7] from 18 (λfv wc=>fv= .bool I/\wc=w3)
 case first=>
  cases ba:ai with
  |true=>
   have HF:Hid (I=true):=aB (by rw[a0.u,ba];rfl);go_wp2_with fail
   go_meet
   case rel=>exact⟨by rw[HF.u],rfl⟩
  |false=>
   cases Z:ph with
   |true=>
    have HF:Hid (I=true):=aB (by rw[a0.u,ba,Z];rfl);rw[Z] at p4;go_wp2_with fail
    go_meet
    case rel=>exact⟨by rw[HF.u],rfl⟩
   |false=>
    rw[Z] at p4;rcases bW.u with⟨e1,l1⟩|⟨E,hj,e1,l1⟩
    ·have HF:Hid (I=false):=aB (by rw[a0.u,ba,Z,l1];rfl);rw[e1] at a7;go_wp2_with (first|(go_at_call 45;refine a7.u.mono ?_;rintro e w4 ⟨rfl,rfl⟩)|fail)
     go_meet
     case rel=>exact⟨by rw[HF.u],rfl⟩
    ·have HF:Hid (I=true):=aB (by rw[a0.u,ba,Z,l1];rfl);rw[e1] at a7;have tj:(0:Int)<=(E:Int):=by omega
     go_wp2_with (first|(go_at_call 45;refine a7.u.mono ?_;rintro e w4 ⟨rfl,rfl⟩)|fail)
     go_meet
     case rel=>exact⟨by rw[HF.u],rfl⟩
 case rest=>
  obtain⟨rfl,rfl⟩:=hcut;clear p4 g0 a7 bW a0;obtain⟨z,bq⟩:∃z,qL b fs name=z:=⟨_,rfl⟩;rw[bq] at r;have bm:=aB bq;clear bq;go_upto_region 4 with fail
  rename_i K1 cG;go_cut [8] from 18 (λH wx=>H= .int .i64 0/\wx=wc)
  case first=>
   go_wp2_with fail
   go_meet
   case rel=>exact⟨rfl,rfl⟩
  case rest=>
   obtain⟨rfl,rfl⟩:=hcut;refine cG _ _ ?_;go_cut [7] from 18 (λfv wx=>fv= .bool z.2/\∃o v,Hid (iR W y o z.1 v wx))
   case first=>
    by_cases hc:bI=none/\ph=false
    ·obtain⟨br,bh⟩:=hc;rw[TP ⟨br,bh⟩] at r;rw[br,bh] at J;rw[bh] at r;clear br bh;go_wp2_with fail
     go_loopw [7,8] (λfv H wr=>∃f:Nat,H= .int .i64 f/\f<=b.aD.length/\((fv= .bool I/\Hid (∀E,E<f->gn b fs name (b.aD.getD E cQ)=false)/\∃o,Hid (iR W y o ⟨name,[],none,[],false⟩ (.slice none 0 0) wr))\/(fv= .bool z.2/\∃k o v,Hid (z.1.gu =some k)/\Hid (iR W y o z.1 v wr)))) (λ_ H _=>b.aD.length-aS H)
     case atStart=>exact⟨0,rfl,TS _,.inl ⟨rfl,λE hj=>(by omega),_,J⟩⟩
     case round=>
      obtain⟨f,rfl,hi,bZ⟩:=hrel;rcases bZ with⟨rfl,HQ,o,i⟩|⟨rfl,k,o,v,HK,i⟩
      ·have ah:=HV.u.aE i.u.aL;have bQ:=ah.lt;obtain⟨a,cap,rb,ro,c2,M,V⟩:=ah.aD;have p2:=i.u.dt.cell 2 (by simp[dw]);have p4:=i.u.dt.cell 4 (by simp[dw]);simp only[dw,gI,im,TG,TI] at p2 p4;by_cases Q:f<b.aD.length
       ·obtain⟨rfl,b7⟩:=M (by omega);obtain⟨vt,vn,vs,vl,hR⟩:=V f Q;have aw:=be.u _ (TV Q);obtain⟨ae,b9⟩:=cJ.u _ (TV Q);have a_:=qe Q;have bx:Hid (gn b fs name b.aD[f]=true->z=(⟨name,(b.aD[f].nd.map λn=>cH n (fN (b.aD[f].tg.headD []) name)).foldl cX [],some f,fN (b.aD[f].tg.headD []) name,false⟩,true)):=λh=>by have cN:jD b fs name=some f:=GD (p:=λE=>gn b fs name (b.aD.getD E cQ)) HQ.u Q (by rw[a_];exact h);rw[r.u,cN];simp only[a_]
        have ac:Hid (gn b fs name b.aD[f]=false->∀E,E<f+1->gn b fs name (b.aD.getD E cQ)=false):=λh=>gV (p:=λE=>gn b fs name (b.aD.getD E cQ)) HQ.u (by rw[a_];exact h);clear a_ V M;generalize b.aD[f]=d at*;have bC:d.tg.headD []=d.tg[0]'(Uy.2 ae):=Dp _;obtain⟨a1,k1,a2,k2,a3,k3,a4,k4,rfl,rfl,rfl,rfl⟩:=hR.iN;obtain⟨d0,d1,d2,d3,d4,d5,a9,b8,cq,ck⟩:=hR;have t1:(f:Int)<(b.aD.length:Int):=by omega
        have am:=(TF wr.heap.size wr).alloc ak (.cells #[.slice a1 d.tg.length k1,.slice a2 d.nd.length k2,.slice a3 d.cs.length k3,.slice a4 d.cs.length k4,.bool d.b_,.bool d.ph] 147);have m:=aB (i.u.aE am);have aJ:=aB (aG.bA wr 147 [.slice a1 d.tg.length k1,.slice a2 d.nd.length k2,.slice a3 d.cs.length k3,.slice a4 d.cs.length k4,.bool d.b_,.bool d.ph]);have au:=aB (b8.aE am);obtain⟨an,aA,e0,bu⟩:∃an aA,a1=some ⟨an,aA,none⟩/\wr.cell? ⟨an,aA,none⟩=some (.string ⟨(d.tg[0]'(Uy.2 ae)).toArray⟩)/\an <wr.heap.size:=by obtain⟨c7,c6,an,aA,cl,cO,cB⟩:=a9;cases cl;have bG:=cO (Uy.2 ae);have bH:=cB 0 (Uy.2 ae);rw[Ve] at bH;exact⟨an,aA,bG.1,bH,bG.2⟩
        subst e0;have q0:=(am.cell (p:=⟨an,aA,none⟩) bu.2).trans bu.1;have c0:(0:Int)<(d.tg.length:Int):=by have:=Uy.2 ae;omega
        have cR:=aB (aw.pP _ (TV (Uy.2 ae)));rw[bC] at bx b9;have al:Hid (gn b fs name d=(d.b_&&(decide (0<d.cs.length)&&(decide (fN (d.tg[0]'(Uy.2 ae)) name≠[])&&d.nd.all λn=>jR b fs (cH n (fN (d.tg[0]'(Uy.2 ae)) name)))))):=aB (by unfold gn;rw[bC]);have c4:=i.u.lo;have c_:=aw.cs;have cj:=aB aw.eV;have cA:=aw.nd;clear bC a9 b8 cq ck am bu i;generalize d.tg[0]'(Uy.2 ae)=aH at*;cases aa:d.b_ with
        |false=>
         have O:gn b fs name d=false:=by rw[al.u,aa];rfl
         rw[aa] at d4 m;go_wp2_with fail
         first
          |exact⟨⟨f+1,by go_num,by omega,.inl ⟨rfl,aB (ac.u O),o,aB m.u⟩⟩,by simp only[aS];omega⟩
          |(go_roundw;exact⟨f+1,by go_num,by omega,.inl ⟨rfl,aB (ac.u O),o,aB m.u⟩⟩;simp only[aS];omega)
        |true=>
         have ct:=b9 aa;rw[aa] at d4 m aJ au q0 al;by_cases cg:d.cs.length=0
         ·have O:gn b fs name d=false:=by rw[al.u,UA (by omega)];rfl
          have tc:((d.cs.length:Int)==0)=true:=by rw[cg];rfl
          clear cg;go_wp2_with fail
          first
           |exact⟨⟨f+1,by go_num,by omega,.inl ⟨rfl,aB (ac.u O),o,aB m.u⟩⟩,by simp only[aS];omega⟩
           |(go_roundw;exact⟨f+1,by go_num,by omega,.inl ⟨rfl,aB (ac.u O),o,aB m.u⟩⟩;simp only[aS];omega)
         ·have tc:((d.cs.length:Int)==0)=false:=by rw[TQ];omega
          rw[Uz (show 0<d.cs.length by omega),Vz,Vz] at al;have CS:=aB (λW'=>KH ⟨aH.toArray⟩ ⟨name.toArray⟩ W' (show aH.length<=_ by have:=cR.u;omega) (show name.length<=_ by omega) ct);have bl:Hid (∀W',Calls prog 112 #[.string ⟨aH.toArray⟩,.string ⟨name.toArray⟩] W' λe w'=>e= .returned (.string ⟨(fN aH name).toArray⟩)/\Below W'.heap.size W' w'):=CS;clear CS;have c9:(fN aH name).length<=name.length:=ED aH name;generalize fN aH name=st at*;by_cases aU:st=[]
          ·have O:gn b fs name d=false:=by rw[al.u,aU];rfl
           have cU:=aB aU;clear aU;go_upto_region 10 with(first|(go_at_call 112;refine(bl.u _).mono ?_;rintro e w5 ⟨rfl,az⟩;have ao:=aB (m.u.aE az);clear az)|fail)
           have ts:(st==([]:List UInt8))=true:=by rw[cU.u];rfl
           go_wp2_with fail
           first
            |exact⟨⟨f+1,by go_num,by omega,.inl ⟨rfl,aB (ac.u O),o,aB ao.u⟩⟩,by simp only[aS];omega⟩
            |(go_roundw;exact⟨f+1,by go_num,by omega,.inl ⟨rfl,aB (ac.u O),o,aB ao.u⟩⟩;simp only[aS];omega)
          ·have ts:(st==([]:List UInt8))=false:=by simpa using aU
           rw[Uz aU,Vz] at al;go_upto_region 11 with(first|(go_at_call 112;refine(bl.u _).mono ?_;rintro e w5 ⟨rfl,az⟩;have ao:=aB (m.u.aE az);have ap:=aB (aJ.u.aE az);have bU:=aB (au.u.aE az);clear az)|fail)
           have y0:=ap.u.cell 0 (by simp);have y1:=ap.u.cell 1 (by simp);have y2:=ap.u.cell 2 (by simp);have y3:=ap.u.cell 3 (by simp);have y4:=ap.u.cell 4 (by simp);have y5:=ap.u.cell 5 (by simp);simp only[TG,TI] at y0 y1 y2 y3 y4 y5;have bs:=aB (Mn (a1:=some ⟨an,aA,none⟩) (a3:=a3) (a4:=a4) (k1:=k1) (k3:=k3) (k4:=k4) (n1:=d.tg.length) (n3:=d.cs.length) (n4:=d.cs.length) (pt:=true) (ph:=d.ph) (HV.u.aE ao.u.aL) HS.u cr bU.u cA cj.u st (by omega));have c1:=ap.u.lt;cases a':d.nd.all λn=>jR b fs (cH n st) with
           |false=>
            have O:gn b fs name d=false:=by rw[al.u,a']
            go_wp2_with (first|(go_at_call 113;refine bs.u.mono ?_;rintro e w6 ⟨aY,a8⟩;have bE:e= .returned (.tuple #[.slice none 0 0,.bool false]):=(by rcases aY with⟨-,h⟩|⟨h,-⟩;exact h;rw[a'] at h;cases h);subst bE;have ab:=aB (ao.u.aE a8);clear aY a8)|fail)
            first
             |exact⟨⟨f+1,by go_num,by omega,.inl ⟨rfl,aB (ac.u O),o,aB ab.u⟩⟩,by simp only[aS];omega⟩
             |(go_roundw;exact⟨f+1,by go_num,by omega,.inl ⟨rfl,aB (ac.u O),o,aB ab.u⟩⟩;simp only[aS];omega)
           |true=>
            have aN:=aB (bx.u (by rw[al.u,a']));go_upto_region 13 with(first|(go_at_call 113;refine bs.u.mono ?_;rintro e w6 ⟨aY,a8⟩;obtain⟨vq,bE,bD⟩:∃vq,e= .returned (.tuple #[vq,.bool true])/\ep w6 (w5.heap.size+1) vq (d.nd.map λn=>cH n st):=(by rcases aY with⟨h,-⟩|⟨-,h⟩;(rw [a'] at h;cases h);exact h);subst bE;obtain⟨aq,kq,rfl⟩:=dX bD;have bt:=aB bD;have ab:=aB (ao.u.aE a8);clear aY a8 bD)|fail)
            rw[TR] at*;have ci:=aB ((ab.u.set ⟨name,[],some f,[],false⟩ (j:=2) (u:= .int .i64 (f:Int)) (.inl ⟨rfl,rfl,rfl⟩)).set ⟨name,[],some f,st,false⟩ (j:=3) (u:= .string ⟨st.toArray⟩) (.inr ⟨rfl,rfl,rfl⟩));have z2:=ab.u.dt.frozen 2;have s2:=ab.u.dt.cell 2 (by simp[dw]);have z3:=(ab.u.dt.set 2 (.int .i64 (f:Int))).frozen 3;have s3:=(ab.u.dt.set 2 (.int .i64 (f:Int))).cell 3 (by simp[dw]);simp only[dw,gI,im,TG,TI,VM,VZ] at s2 s3;have c':=ao.u.lo;have b':∀q,q≠y->((w6.setCell ⟨y,2,none⟩ (.int .i64 (f:Int))).setCell ⟨y,3,none⟩ (.string ⟨st.toArray⟩)).heap[q]?=w6.heap[q]?:=λq hq=>(T5 _ _ _ _ hq).trans (T5 _ _ _ _ hq);have bz:Hid (ep ((w6.setCell ⟨y,2,none⟩ (.int .i64 (f:Int))).setCell ⟨y,3,none⟩ (.string ⟨st.toArray⟩)) (w5.heap.size+1) (.slice aq d.nd.length kq) (d.nd.map λn=>cH n st)):=aB (bT bt.u λq hq=>b' q (by have:=(T3 bt.u q hq).1;omega));clear b';clear bt ab ao m y0 y1 y2 y3 y4 y5 aJ ap au bU bs bl d0 d1 d2 d3 d4 d5 q0 p2 p4 c2 ac bx;go_wp2_with fail
            clear z2 s2 z3 s3;generalize (w6.setCell ⟨y,2,none⟩ (.int .i64 (f:Int))).setCell ⟨y,3,none⟩ (.string ⟨st.toArray⟩)=w7 at*;have cL:=aB (ci.u.R6 rfl);have bN:∀q,(Value.slice aq d.nd.length kq).ownBlock=some q->q<w7.heap.size/\y<q:=λq hq=>⟨(T3 bz.u q hq).2,by have:=(T3 bz.u q hq).1;omega⟩;have bP:=aB bN;clear bN ci;go_loopw [13] (λR wz=>∃(k:Nat) (v:ay),R= .int .i64 k/\k<=d.nd.length/\Hid (iR W y w7.heap.size ⟨name,((d.nd.map λn=>cH n st).take k).foldl cX [],some f,st,false⟩ v wz)/\Hid (ep wz (w5.heap.size+1) (.slice aq d.nd.length kq) (d.nd.map λn=>cH n st))) (λR _=>d.nd.length-aS R)
            case atStart=>exact⟨0,_,rfl,TS _,cL,bz⟩
            case round=>
             obtain⟨k,v,rfl,cy,D,cb⟩:=hrel;by_cases bc:k<d.nd.length
             ·have bM:k<(d.nd.map λn=>cH n st).length:=by rw[TR];exact bc
              have tk:(k:Int)<(d.nd.length:Int):=by omega
              obtain⟨cx,cK,bJ,bY,bd,aQ,aW⟩:=cb.u.sl;rw[TR] at bd aQ;cases bd;obtain⟨rfl,-⟩:=aQ (by omega);have l0:=aW k bM;have aV:Hid (((d.nd.map λn=>cH n st).take (k+1)).foldl cX []=cX (((d.nd.map λn=>cH n st).take k).foldl cX []) (d.nd.map λn=>cH n st)[k]):=aB (by rw[TW bM,VX];rfl);have aZ:=qP ((d.nd.map λn=>cH n st).take k) [];rw[Um,TR,T1] at aZ;unfold aK at l0;generalize (d.nd.map λn=>cH n st)[k]=lk at*;have bo :=D.u.dt.cell 1 (by simp[dw]);simp only[dw,TG,TI] at bo;obtain⟨av,cP,rfl⟩:=dX D.u.row;have ad:=D.u.xq;have bB:=aB (Ed ad.row ad.lo.2 (by show _<=_;simp only;omega) lk);have bk:=aB (λ(w8:ax) (v' :ay) (ho:ep w8 w7.heap.size v' (cX (((d.nd.map λn=>cH n st).take k).foldl cX []) lk)) hg=>ad.push (n:=lk) (v' :=v') ho hg);have cM:Hid (ep wr.drew (w5.heap.size+1) (.slice (some ⟨bJ,bY,none⟩) d.nd.length kq) (d.nd.map λn=>cH n st)):=aB (bT cb.u λ_ _=>rfl);clear aQ aW aZ ad;go_wp2_with fail
              go_region_with (first|(go_at_call 114;refine bB.u.mono ?_;rintro e w8 ⟨v8,rfl,ar,aT,-⟩;obtain⟨r1,r2,r3,r4⟩:=bk.u w8 v8 ar aT;obtain⟨va,vc,rfl⟩:=dX ar;have a5:=aB r1;have m1:=r2.cell 1 (by simp[dw]);have m2:=r2.frozen 1;have bV:=aB (bT cM.u λq hq=>r3 q (bP.u q hq).1 (by have:=(bP.u q hq).2;omega));clear r1 r2 r3 r4 ar aT)|fail)
              all_goals go_wp2_with fail
              all_goals first
               |exact⟨⟨k+1,_,by go_num,by omega,by rw[aV.u];exact a5,bV⟩,by simp only[aS];omega⟩
               |(go_roundw;exact⟨k+1,_,by go_num,by omega,by rw[aV.u];exact a5,bV⟩;simp only[aS];omega)
             ·have tk:¬(k:Int)<(d.nd.length:Int):=by omega
              have HT:Hid ((d.nd.map λn=>cH n st).take k=d.nd.map λn=>cH n st):=aB (Uh (by rw[TR];omega));rw[HT.u] at D;go_wp2_with fail
              first
               |exact⟨⟨f+1,by go_num,by omega,.inr ⟨by rw[aN.u],f,_,v,aB (by rw[aN.u]),aB (by rw[aN.u];exact D.u)⟩⟩,by simp only[aS];omega⟩
               |(go_roundw;exact⟨f+1,by go_num,by omega,.inr ⟨by rw[aN.u],f,_,v,aB (by rw[aN.u]),aB (by rw[aN.u];exact D.u)⟩⟩;simp only[aS];omega)
       ·have t1:¬(f:Int)<(b.aD.length:Int):=by omega
        have HP:Hid (jD b fs name=none):=aB (by unfold jD;exact Hj HQ.u Q);have HX:Hid (z=(⟨name,[],none,[],false⟩,I)):=aB (by rw[r.u,HP.u]);clear V M;go_wp2_with fail
        go_meet
        case rel=>exact⟨by rw[HX.u],o,_,by rw[HX.u];exact i⟩
      ·have ah:=HV.u.aE i.u.aL;have bQ:=ah.lt;obtain⟨a,cap,rb,ro,c2,M,V⟩:=ah.aD;have p2:=i.u.dt.cell 2 (by simp[dw]);simp only[dw,gI,TG,TI] at p2;rw[HK.u] at p2;simp only[im] at p2;have t2:¬(k:Int)<0:=by omega
       clear M V;by_cases Q:f<b.aD.length
       ·have t1:(f:Int)<(b.aD.length:Int):=by omega
        go_wp2_with fail
        go_meet
        case rel=>exact⟨rfl,o,v,i⟩
       ·have t1:¬(f:Int)<(b.aD.length:Int):=by omega
        go_wp2_with fail
        go_meet
        case rel=>exact⟨rfl,o,v,i⟩
    ·rw[TJ hc] at r;have ah:=HV.u.aE J.u.aL;have bQ:=ah.lt;obtain⟨a,cap,rb,ro,c2,M,V⟩:=ah.aD;have p2:=J.u.dt.cell 2 (by simp[dw]);have p4:=J.u.dt.cell 4 (by simp[dw]);simp only[dw,gI,TG,TI] at p2 p4;clear M V;go_wp2_with fail
     go_loopw [7,8] (λfv H wr=>H= .int .i64 0/\fv= .bool I/\wr=wc) (λ_ H _=>0)
     case atStart=>exact⟨rfl,rfl,rfl⟩
     case round=>
      obtain⟨rfl,rfl,rfl⟩:=hrel;by_cases c8:b.aD.length=0
      ·have t1:¬(0:Int)<(b.aD.length:Int):=by omega
       go_wp2_with fail
       go_meet
       case rel=>exact⟨by rw[r.u],_,_,by rw[r.u];exact J⟩
      ·have t1:(0:Int)<(b.aD.length:Int):=by omega
       cases bO:ph with
       |true=>
        rw[bO] at p4;by_cases cn:im bI<0
        ·go_wp2_with fail
         go_meet
         case rel=>exact⟨by rw[r.u],_,_,by rw[r.u];exact J⟩
        ·go_wp2_with fail
         go_meet
         case rel=>exact⟨by rw[r.u],_,_,by rw[r.u];exact J⟩
       |false=>
        have cn:¬im bI<0:=by
         cases cp:bI with
         |none=>exact absurd ⟨cp,bO⟩ hc
         |some n=>simp only[im];omega
        go_wp2_with fail
        go_meet
        case rel=>exact⟨by rw[r.u],_,_,by rw[r.u];exact J⟩
   case rest=>
    obtain⟨rfl,bj,v1,cd⟩:=hcut;have au:Hid (cT b fs name=({z.1 with aF:=lA b name z.1.aF},z.2)):=aB (by rw[QS,bm.u]);have co:z.1.aF.length<=2000:=by rw[<-bm.u];exact Q6 (λd hr=>(be.u d hr).nd)
    have bS:Hid (∀f,((b.aD.take f).foldl (λa d=>if de name d=true then d.nd.foldl cX a else a) z.1.aF).length<=130000):=aB (λf=>by have h1:=Db (name:=name) (b.aD.take f) z.1.aF λd hr=>(be.u d (aa1 hr)).nd;rw[Um] at h1;omega);obtain⟨x,xf⟩:=z;simp only at au bS cd;clear r bm co J;go_wp2_with fail
    go_loopw [14] (λH wr=>∃(f:Nat) (v:ay),H= .int .i64 f/\f<=b.aD.length/\Hid (iR W y bj {x with aF:=(b.aD.take f).foldl (λa d=>if de name d=true then d.nd.foldl cX a else a) x.aF} v wr)) (λH _=>b.aD.length-aS H)
    case atStart=>exact⟨0,v1,rfl,TS _,cd⟩
    case round=>
     obtain⟨f,v,rfl,hi,i⟩:=hrel;obtain⟨a,cap,rb,ro,ch,M,V⟩:=HV.u.aD;have c2:=(i.u.aL.cell (p:=⟨bb,2,none⟩) cF).trans ch;clear ch;by_cases Q:f<b.aD.length
     ·obtain⟨rfl,b7⟩:=M (by omega);obtain⟨vt,vn,vs,vl,bn⟩:=V f Q;have aw:=be.u _ (TV Q);have aM:Hid ((b.aD.take (f+1)).foldl (λa d=>if de name d=true then d.nd.foldl cX a else a) x.aF=if de name b.aD[f]=true then b.aD[f].nd.foldl cX ((b.aD.take f).foldl (λa d=>if de name d=true then d.nd.foldl cX a else a) x.aF) else(b.aD.take f).foldl (λa d=>if de name d=true then d.nd.foldl cX a else a) x.aF):=aB (by rw[TW Q,VX];rfl);have c3:=bS.u f;clear V M;generalize b.aD[f]=d at*;generalize (b.aD.take f).foldl (λa d=>if de name d=true then d.nd.foldl cX a else a) x.aF=G at*;have hR:=bn.aE b7 i.u.aL;have cS:=aB bn.nd;obtain⟨a1,k1,a2,k2,a3,k3,a4,k4,rfl,rfl,rfl,rfl⟩:=hR.iN;obtain⟨d0,d1,d2,d3,d4,d5,a9,-,-,-⟩:=hR;have t1:(f:Int)<(b.aD.length:Int):=by omega
      have am:=(TF wr.heap.size wr).alloc ak (.cells #[.slice a1 d.tg.length k1,.slice a2 d.nd.length k2,.slice a3 d.cs.length k3,.slice a4 d.cs.length k4,.bool d.b_,.bool d.ph] 147);have HC:=aB (a9.uP (by have:=aw.tg;omega) name _ am);have m:=aB (i.u.aE am);have aJ:=aB (aG.bA wr 147 [.slice a1 d.tg.length k1,.slice a2 d.nd.length k2,.slice a3 d.cs.length k3,.slice a4 d.cs.length k4,.bool d.b_,.bool d.ph]);have da:=aw.nd;have cm:=i.u.lo;clear a9 bn am i;cases aO:dO name d.tg with
      |false=>
       have S:Hid ((b.aD.take (f+1)).foldl (λa d=>if de name d=true then d.nd.foldl cX a else a) x.aF=G):=aB (by rw[aM.u,TJ (by simp[de,aO])]);go_wp2_with (first|(go_at_call 115;refine HC.u.mono ?_;rintro e w3 ⟨rfl,rfl⟩;rw[aO])|fail)
       first
        |exact⟨⟨f+1,v,by go_num,by omega,aB (by rw[S.u];exact m.u)⟩,by simp only[aS];omega⟩
        |(go_roundw;exact⟨f+1,v,by go_num,by omega,aB (by rw[S.u];exact m.u)⟩;simp only[aS];omega)
      |true=>
       cases aa:d.b_ with
       |true=>
        rw[aa] at d4 HC m;have S:Hid ((b.aD.take (f+1)).foldl (λa d=>if de name d=true then d.nd.foldl cX a else a) x.aF=G):=aB (by rw[aM.u,TJ (by simp[de,aa])]);go_wp2_with (first|(go_at_call 115;refine HC.u.mono ?_;rintro e w3 ⟨rfl,rfl⟩;rw[aO])|fail)
        first
         |exact⟨⟨f+1,v,by go_num,by omega,aB (by rw[S.u];exact m.u)⟩,by simp only[aS];omega⟩
         |(go_roundw;exact⟨f+1,v,by go_num,by omega,aB (by rw[S.u];exact m.u)⟩;simp only[aS];omega)
       |false=>
        cases Z:d.ph with
        |true=>
         rw[aa] at d4 HC m;rw[Z] at d5 HC m;have S:Hid ((b.aD.take (f+1)).foldl (λa d=>if de name d=true then d.nd.foldl cX a else a) x.aF=G):=aB (by rw[aM.u,TJ (by simp[de,Z])]);go_wp2_with (first|(go_at_call 115;refine HC.u.mono ?_;rintro e w3 ⟨rfl,rfl⟩;rw[aO])|fail)
         first
          |exact⟨⟨f+1,v,by go_num,by omega,aB (by rw[S.u];exact m.u)⟩,by simp only[aS];omega⟩
          |(go_roundw;exact⟨f+1,v,by go_num,by omega,aB (by rw[S.u];exact m.u)⟩;simp only[aS];omega)
        |false=>
         rw[aa] at d4 HC m aJ;rw[Z] at d5 HC m aJ;have S:Hid ((b.aD.take (f+1)).foldl (λa d=>if de name d=true then d.nd.foldl cX a else a) x.aF=d.nd.foldl cX G):=aB (by rw[aM.u,TP (by simp[de,aO,aa,Z])]);go_wp2_with (first|(go_at_call 115;refine HC.u.mono ?_;rintro e w3 ⟨rfl,rfl⟩;rw[aO])|fail)
         generalize cz:wr.alloc (.cells #[.slice a1 d.tg.length k1,.slice a2 d.nd.length k2,.slice a3 d.cs.length k3,.slice a4 d.cs.length k4,.bool false,.bool false] 147)=w7 at*;generalize cZ:wr.heap.size=rb7 at*;clear cz HC d0 d1 d2 d3 d4 d5 c2;go_loopw [17] (λR wz=>∃(k:Nat) (v:ay),R= .int .i64 k/\k<=d.nd.length/\Hid (iR W y bj {x with aF:=(d.nd.take k).foldl cX G} v wz)/\Hid (aG wz rb7 147 [.slice a1 d.tg.length k1,.slice a2 d.nd.length k2,.slice a3 d.cs.length k3,.slice a4 d.cs.length k4,.bool false,.bool false])) (λR _=>d.nd.length-aS R)
         case atStart=>exact⟨0,v,rfl,TS _,m,aJ⟩
         case round=>
          obtain⟨k,v,rfl,cy,D,bg⟩:=hrel;have cv:=bg.u.cell 1 (by simp);simp only[TG,TI] at cv;by_cases bc:k<d.nd.length
          ·have tk:(k:Int)<(d.nd.length:Int):=by omega
           obtain⟨cx,cK,bJ,bY,bd,aQ,aW⟩:=cS.u.aE D.u.aL;cases bd;obtain⟨rfl,-⟩:=aQ (by omega);have l0:=aW k bc;have aV:Hid ((d.nd.take (k+1)).foldl cX G=cX ((d.nd.take k).foldl cX G) d.nd[k]):=aB (by rw[TW bc,VX];rfl);have aZ:=qP (d.nd.take k) G;rw[Um] at aZ;unfold aK at l0;generalize d.nd[k]=lk at*;have bo :=D.u.dt.cell 1 (by simp[dw]);simp only[dw,TG,TI] at bo;have cw:=aB (uk bg.u D.u.row (by decide));have cD:=bg.u.lt;obtain⟨av,cP,rfl⟩:=dX D.u.row;have ad:=D.u.xq;have bB:=aB (Ed ad.row ad.lo.2 (by show _<=_;simp only;omega) lk);have bk:=aB (λ(w8:ax) (v' :ay) (ho:ep w8 bj v' (cX ((d.nd.take k).foldl cX G) lk)) hg=>ad.push (n:=lk) (v' :=v') ho hg);clear aQ aW aZ ad;go_wp2_with fail
           go_region_with (first|(go_at_call 114;refine bB.u.mono ?_;rintro e w8 ⟨v8,rfl,ar,aT,-⟩;obtain⟨r1,r2,-,-⟩:=bk.u w8 v8 ar aT;have bR:=aB (Mp (nb:=y) (u:=v8) aT cD cw.u (by omega) bg.u);obtain⟨va,vc,rfl⟩:=dX ar;have a5:=aB r1;have m1:=r2.cell 1 (by simp[dw]);have m2:=r2.frozen 1;clear r1 r2 ar aT)|fail)
           all_goals go_wp2_with fail
           all_goals first
            |exact⟨⟨k+1,_,by go_num,by omega,by rw[aV.u];exact a5,bR⟩,by simp only[aS];omega⟩
            |(go_roundw;exact⟨k+1,_,by go_num,by omega,by rw[aV.u];exact a5,bR⟩;simp only[aS];omega)
          ·have tk:¬(k:Int)<(d.nd.length:Int):=by omega
           have HT:Hid (d.nd.take k=d.nd):=aB (Uh (by omega));rw[HT.u] at D;go_wp2_with fail
           first
            |exact⟨⟨f+1,v,by go_num,by omega,aB (by rw[S.u];exact D.u)⟩,by simp only[aS];omega⟩
            |(go_roundw;exact⟨f+1,v,by go_num,by omega,aB (by rw[S.u];exact D.u)⟩;simp only[aS];omega)
     ·have t1:¬(f:Int)<(b.aD.length:Int):=by omega
      have aM:Hid ((b.aD.take f).foldl (λa d=>if de name d=true then d.nd.foldl cX a else a) x.aF=lA b name x.aF):=aB (by rw[Uh (by omega)];rfl);rw[aM.u] at i;have HB:=aB i.u.aL;have ca:=aB i.u.row;have cm:=i.u.lo;obtain⟨av,R,rfl⟩:=dX i.u.row;have b0:=i.u.dt.cell 0 (by simp[dw]);have b1:=i.u.dt.cell 1 (by simp[dw]);have b2:=i.u.dt.cell 2 (by simp[dw]);have b3:=i.u.dt.cell 3 (by simp[dw]);have b4:=i.u.dt.cell 4 (by simp[dw]);have b5:=i.u.dt.cell 5 (by simp[dw]);have b6:=i.u.dt.cell 6 (by simp[dw]);have a6:=aB i.u.gE;clear M V i;unfold AS at a6;generalize db:lA b name x.aF=G at*;simp only[dw,gI,aK,TG,TI] at b0 b1 b2 b3 b4 b5 b6;have h1:=a6.u.set 0 (.string ⟨x.name.toArray⟩);have h2:=h1.set 1 (.slice av G.length R);have h3:=h2.set 2 (.int .i64 (im x.gu));have h4:=h3.set 3 (.string ⟨x.stem.toArray⟩);have h5:=h4.set 4 (.bool x.ph);have h6:=h5.set 5 (.bool false);have h7:=h6.set 6 (.slice none 0 0);have g0:=a6.u.frozen 0;have r0:=a6.u.cell 0 (by simp);have g1:=h1.frozen 1;have r1:=h1.cell 1 (by simp);have g2:=h2.frozen 2;have r2:=h2.cell 2 (by simp);have g3:=h3.frozen 3;have r3:=h3.cell 3 (by simp);have g4:=h4.frozen 4;have r4:=h4.cell 4 (by simp);have g5:=h5.frozen 5;have r5:=h5.cell 5 (by simp);have g6:=h6.frozen 6;have r6:=h6.cell 6 (by simp);have o0:=h7.cell 0 (by simp);have o1:=h7.cell 1 (by simp);have o2:=h7.cell 2 (by simp);have o3:=h7.cell 3 (by simp);have o4:=h7.cell 4 (by simp);have o5:=h7.cell 5 (by simp);have o6:=h7.cell 6 (by simp);simp only[VZ,VM,TG,TI] at r0 r1 r2 r3 r4 r5 r6 o0 o1 o2 o3 o4 o5 o6;clear h1 h2 h3 h4 h5 h6 h7 a6;go_wp2_with fail
      have aC:=dD ca.u (N:=W.heap.size) (by omega);refine Ua (v:= .tuple #[.agg (dw (cT b fs name).1 (.slice av G.length R)).toArray,.bool (cT b fs name).2]) ?_ rfl ⟨_,rfl,?_,?_⟩
      ·rw[au.u];simp[results,results70,go_sem,o0,o1,o2,o3,o4,o5,o6,dw,gI,aK]
      ·rw[au.u];simp only;have h8:=dQ (dQ (dQ (dQ (dQ (dQ (dQ ca.u aC 0 (.string ⟨x.name.toArray⟩)) aC 1 (.slice av G.length R)) aC 2 (.int .i64 (im x.gu))) aC 3 (.string ⟨x.stem.toArray⟩)) aC 4 (.bool x.ph)) aC 5 (.bool false)) aC 6 (.slice none 0 0);exact PH h8 (by omega)
      ·exact(((((((HB.u.setCell (p:=⟨W.heap.size,0,none⟩) ak _).setCell (p:=⟨W.heap.size,1,none⟩) ak _).setCell (p:=⟨W.heap.size,2,none⟩) ak _).setCell (p:=⟨W.heap.size,3,none⟩) ak _).setCell (p:=⟨W.heap.size,4,none⟩) ak _).setCell (p:=⟨W.heap.size,5,none⟩) ak _).setCell (p:=⟨W.heap.size,6,none⟩) ak _)
section
variable {L0 W W' X:ax} {wb bb:Nat} {fs:List aI} {b:Bk} {vN vO vN' vO' :ay} {xs:List ((Nr×Bool)×ay)} {t:Wk} {er:Nat}
theorem eZ.aY (h:eZ L0 W wb bb fs b vN vO xs t er){q:Nat}{o:Array ay}{n:Nat×Nat}(a:W.heap[q]?=some (Obj.cells o 9 n)):q<W.heap.size/\q≠wb/\some q≠vN.ownBlock/\some q≠vO.ownBlock:=by
 refine⟨(TN.1 a).1,λe=> ?_,λe=> ?_,λe=> ?_⟩
 ·subst e;have j:=h.row;unfold aG at j;rw[j] at a;simp at a
 ·rcases h.aQ.2 with⟨d,_⟩|⟨g,cap,m,d,_,f,_⟩
  ·rw[d] at e;cases e
  ·rw[d] at e;have i:q=g:=by simpa [Value.ownBlock] using e
   subst i;rw[f] at a;simp at a
 ·rcases h.aW.2 with⟨d,_⟩|⟨g,cap,m,d,_,f,_⟩
  ·rw[d] at e;cases e
  ·rw[d] at e;have i:q=g:=by simpa [Value.ownBlock] using e
   subst i;rw[f] at a;simp at a
theorem eZ.xc (h:eZ L0 W wb bb fs b vN vO xs t er){k:Nat}(a:vO.ownBlock=some k):some k≠vN.ownBlock:=λe=>by
 rcases oy h.aW h.aQ (by decide) with e1|e1
 ·rw[a] at e1;cases e1
 ·exact e1 (a.trans e)
theorem eZ.cy (h:eZ L0 W wb bb fs b vN vO xs t er)(e:Nat):eZ L0 (W.setCell ⟨wb,3,none⟩ (.int .i64 (e:Int))) wb bb fs b vN vO xs t e/\jd W (W.setCell ⟨wb,3,none⟩ (.int .i64 (e:Int))) wb vN vO vN vO:=by
 have a:∀q,q≠wb->(W.setCell ⟨wb,3,none⟩ (.int .i64 (e:Int))).heap[q]?=W.heap[q]?:=λq m=>T5 _ _ _ _ m;have j:W.heap.size<=(W.setCell ⟨wb,3,none⟩ (.int .i64 (e:Int))).heap.size:=YU (by simp);refine⟨⟨h.row.set 3 _,h.cV,h.bU.setCell (p:=⟨wb,3,none⟩) h.lt _,h.lt,h.nx,bT h.aQ λk d=>a k ?_,bT h.aW λk d=>a k ?_,λx f=>(h.aF x f).1.kept (h.aF x f).2 (λq _ _ n=>a q (h.aY n).2.1) j⟩,⟨(TF _ _).setCell (p:=⟨wb,3,none⟩) ak _,λq _ i _ _=>a q i,.inl rfl,.inl rfl⟩⟩
 ·have:=(T3 h.aQ k d).1;omega
 ·have:=(T3 h.aW k d).1;omega
theorem eZ.push (h:eZ L0 W wb bb fs b vN vO xs t er){x:Nr}{v:ay}(H:e_ W v x.aF/\qG W v)(a:W.grownBy X vN.ownBlock)(z:X.ownsRow (wb+1) 116 7 vN' (xs.length+1) (xs.flatMap jM++jM ((x,false),v)))(M:vN'.ownBlock=vN.ownBlock\/∃q,vN'.ownBlock=some q/\W.heap.size<=q):
 eZ L0 (X.setCell ⟨wb,1,none⟩ vN') wb bb fs b vN' vO (xs++[((x,false),v)]) (eG t x) er/\jd W (X.setCell ⟨wb,1,none⟩ vN') wb vN vO vN' vO/\aG X wb 43 [.pointer (some ⟨bb,0,none⟩),vN,vO,.int .i64 (er:Int),.int .i64 0]:=by
 have n:=h.lt;have I:=h.row.lt;have G:∀q,q≠wb->(X.setCell ⟨wb,1,none⟩ vN').heap[q]?=X.heap[q]?:=λq N=>T5 _ _ _ _ N;have E:X.heap.size<=(X.setCell ⟨wb,1,none⟩ vN').heap.size:=YU (by simp);have J:some wb≠vN.ownBlock:=dD h.aQ (V7 _);have D:aG X wb 43 [.pointer (some ⟨bb,0,none⟩),vN,vO,.int .i64 (er:Int),.int .i64 0]:=(a.block _ I J).trans h.row;have m:∀q,q<W.heap.size->q≠wb->some q≠vN.ownBlock->(X.setCell ⟨wb,1,none⟩ vN').heap[q]?=W.heap[q]?:=λq j f o=>(G q f).trans (a.block q j o);have r:Below wb W X:=⟨a.os,a.tape,a.output,a.size,λk i=>a.block k (by omega) (dD h.aQ (by omega))⟩;have u:∀(q:Nat) cs fz,W.heap[q]?=some (Obj.cells cs 9 fz)->(X.setCell ⟨wb,1,none⟩ vN').heap[q]?=W.heap[q]?:=λq _ _ j=>by obtain⟨Q,O,R,-⟩:=h.aY j;exact m q Q O R
 refine⟨⟨D.set 1 vN',h.cV,(h.bU.trans (r.mono n)).setCell (p:=⟨wb,1,none⟩) n _,n,?_,?_,bT h.aW λk i=> ?_,λy d=> ?_⟩,⟨(r.setCell (p:=⟨wb,1,none⟩) ak _),λq j f o _=>m q j f o,M,.inl rfl⟩,D⟩
 ·rw[T',h.nx];rfl
 ·rw[TE,US];refine bT (by simpa using z) λk i=>G k (by have:=(T3 z k i).1;omega)
 ·have f:=T3 h.aW k i;exact m k f.2 (by omega) (h.xc i)
 ·rcases T4.1 d with d|d
  ·exact(h.aF y d).1.kept (h.aF y d).2 u (TT a.size E)
  ·rw[TL.1 d];exact H.1.kept H.2 u (TT a.size E)
theorem Gl:∀(xs:List ((Nr×Bool)×ay)) (k:Nat) (a:k<xs.length),(xs.flatMap jM).set (k*7+5) (.bool true)=(xs.set k ((xs[k].1.1,true),xs[k].2)).flatMap jM
 |x::d,0,_=>by rw[VZ,Ud,Ud,aa8 _ _ (by simp[jM])];rfl
 |x::d,k+1,a=>by
  have f:=Gl d k (by simpa using a);have e:(k+1)*7+5=(jM x).length+(k*7+5):=by simp[jM];omega
  rw[VM,Ud,Ud,e,Vg _ _ (by omega),Vf,f];simp
theorem eZ.cD {g cap:Nat}(h:eZ L0 W wb bb fs b (.slice (some ⟨g,0,none⟩) xs.length cap) vO xs t er){k:Nat}(d:k<xs.length):
 eZ L0 (W.setCell ⟨g,k*7+5,none⟩ (.bool true)) wb bb fs b (.slice (some ⟨g,0,none⟩) xs.length cap) vO (xs.set k ((xs[k].1.1,true),xs[k].2)) ⟨t.aQ.set k ((bS t k).1,true),t.aW⟩ er/\jd W (W.setCell ⟨g,k*7+5,none⟩ (.bool true)) wb (.slice (some ⟨g,0,none⟩) xs.length cap) vO (.slice (some ⟨g,0,none⟩) xs.length cap) vO:=by
 have m:=h.lt;have H:=(T3 h.aQ g rfl).1;have a:∀q,q≠g->(W.setCell ⟨g,k*7+5,none⟩ (.bool true)).heap[q]?=W.heap[q]?:=λq f=>T5 _ _ _ _ f;have u:W.heap.size<=(W.setCell ⟨g,k*7+5,none⟩ (.bool true)).heap.size:=YU (by simp);have v:t.aQ[k]?=some xs[k].1:=by rw[<-h.nx,UG,TH d];rfl
 have o:(bS t k).1=xs[k].1.1:=by unfold bS;rw[TO,v];rfl
 have i:=qU h.aQ (k*7+5) (.bool true);rw[Gl xs k d] at i;refine⟨⟨(a _ (by omega)).trans h.row,h.cV,h.bU.setCell (p:=⟨g,k*7+5,none⟩) (show L0.heap.size<=g by omega) _,m,?_,?_,bT h.aW λq f=>a q ?_,λy n=> ?_⟩,⟨(TF _ _).setCell (p:=⟨g,k*7+5,none⟩) (show wb<=g by omega) _,λq _ _ r _=>a q (λe=>r (by rw[e];rfl)),.inl rfl,.inl rfl⟩⟩
 ·rw[aaI,h.nx,o]
 ·rw[UB];exact i
 ·intro e;exact h.xc f (by rw[e];rfl)
 ·have x:∃z∈xs,z.2=y.2/\z.1.1=y.1.1:=by
   rcases VK n with q|q
   ·exact⟨y,q,rfl,rfl⟩
   ·exact⟨xs[k],TV d,by rw[q],by rw[q]⟩
  obtain⟨z,j,E,D⟩:=x;rw[<-E,<-D];exact(h.aF z j).1.kept (h.aF z j).2 (λq _ _ G=>a q (λe=>(h.aY G).2.2.1 (by rw[e];rfl))) u
theorem eZ.dE (h:eZ L0 W wb bb fs b vN vO xs t er){k:Nat}(a:W.grownBy X vO.ownBlock)(o:X.ownsRow (wb+1) 3 1 vO' (t.aW.length+1) ((t.aW.map λ(J:Nat)=>Value.int .i64 (J:Int))++[.int .i64 (k:Int)]))(D:vO'.ownBlock=vO.ownBlock\/∃q,vO'.ownBlock=some q/\W.heap.size<=q):
 eZ L0 (X.setCell ⟨wb,2,none⟩ vO') wb bb fs b vN vO' xs ⟨t.aQ,t.aW++[k]⟩ er/\jd W (X.setCell ⟨wb,2,none⟩ vO') wb vN vO vN vO' /\aG X wb 43 [.pointer (some ⟨bb,0,none⟩),vN,vO,.int .i64 (er:Int),.int .i64 0]:=by
 have m:=h.lt;have x:=h.row.lt;have v:∀q,q≠wb->(X.setCell ⟨wb,2,none⟩ vO').heap[q]?=X.heap[q]?:=λq E=>T5 _ _ _ _ E;have I:X.heap.size<=(X.setCell ⟨wb,2,none⟩ vO').heap.size:=YU (by simp);have z:some wb≠vO.ownBlock:=dD h.aW (V7 _);have u:aG X wb 43 [.pointer (some ⟨bb,0,none⟩),vN,vO,.int .i64 (er:Int),.int .i64 0]:=(a.block _ x z).trans h.row;have j:∀q,q<W.heap.size->q≠wb->some q≠vO.ownBlock->(X.setCell ⟨wb,2,none⟩ vO').heap[q]?=W.heap[q]?:=λq d f H=>(v q f).trans (a.block q d H);have n:Below wb W X:=⟨a.os,a.tape,a.output,a.size,λk i=>a.block k (by omega) (dD h.aW (by omega))⟩;refine⟨⟨u.set 2 vO',h.cV,(h.bU.trans (n.mono m)).setCell (p:=⟨wb,2,none⟩) m _,m,h.nx,bT h.aQ λk i=> ?_,?_,λy r=>(h.aF y r).1.kept (h.aF y r).2 (λq _ _ d=>j q (h.aY d).1 (h.aY d).2.1 (h.aY d).2.2.2) (TT a.size I)⟩,⟨(n.setCell (p:=⟨wb,2,none⟩) ak _),λq d f _ G=>j q d f G,.inl rfl,D⟩,u⟩
 ·have f:=T3 h.aQ k i;exact j k f.2 (by omega) (λe=>h.xc e.symm (by rw[i]))
 ·rw[TE,T'];exact bT o λk i=>v k (by have:=(T3 o k i).1;omega)
end
def SG (L0:ax)(wb bb:Nat)(fs:List aI)(b:Bk)(vN vO:ay)(q:Nat×Wk)(W:ax)(e:Ending)(W' :ax):Prop:=(∃v,e= .returned v)/\∃vN' vO' a,eZ L0 W' wb bb fs b vN' vO' a q.2 q.1/\jd W W' wb vN vO vN' vO'
theorem Tryz.Ny:(Tryz.prog.info? 116).map (λa=>(a.zero,a.size,a.bytes))=some (some (.agg #[.string ⟨#[]⟩,.slice none 0 0,.int .i64 0,.string ⟨#[]⟩,.bool false,.bool false,.slice none 0 0]),7,96):=by kernel_rfl
theorem Hk {α:Type}{f:α->List ay}{k:Nat}(i:∀x,(f x).length=k):∀(xs:List α) (d a:Nat) (y:α) (u:ay) (o:d<xs.length),(f xs[d]).set a u=f y->a<k->(xs.flatMap f).set (d*k+a) u=(xs.set d y).flatMap f
 |x::n,0,a,y,u,_,j,m=>by rw[VZ,Ud,Ud,YP,Ur,aa8 _ _ (by rw[i];exact m)];exact TU (·++_) j
 |x::n,d+1,a,y,u,o,j,m=>by
  have e:(d+1)*k+a=(f x).length+(d*k+a):=by rw[i,VO];omega
  rw[VM,Ud,Ud,e,Vg _ _ (by omega),Vf,Hk i n d a y u (by simpa using o) (by simpa using j) m]
structure Wn where
 x:Nr
 ov:Bool
 vn:ay
 cs:List ag
 vc:ay
def iA:Wn:=⟨I4,false,.slice none 0 0,[],.slice none 0 0⟩
def iH (y:Wn):List ay:=[aK y.x.name,y.vn,gI y.x.gu,aK y.x.stem,.bool y.x.ph,.bool y.ov,y.vc]
structure eA (L0 W:ax)(wb bb:Nat)(fs:List aI)(b:Bk)(vN vO:ay)(os:List ay)(k:Nat)(ys:List Wn)(dE:List Nat)(er ln:Nat):Prop where
 row:aG W wb 43 [.pointer (some ⟨bb,0,none⟩),vN,vO,dg er,dg ln]
 cV:mh L0 bb fs b
 bU:Below L0.heap.size L0 W
 lt:L0.heap.size<=wb
 aQ:W.ownsRow (wb+1) 116 7 vN ys.length (ys.flatMap iH)
 aW:la W vO dE
 oz:Fz W wb os vO
 aF:∀y∈ys,e_ W y.vn y.x.aF/\Fz W wb os y.vn
 aH:∀j (h:j<ys.length),j≠k->e_ W ys[j].vc ys[j].cs/\Fz W wb os ys[j].vc
theorem Fz.mono {W:ax}{bb:Nat}{os os' :List ay}{v:ay}(h:Fz W bb os v)(i:∀u∈os',u.ownBlock=none\/u∈os):Fz W bb os' v:=λq j=>by
 obtain⟨m,a,f⟩:=h q j;refine⟨m,a,λu d e=> ?_⟩;rcases i u d with h4|h4
 ·rw[h4] at e;cases e
 ·exact f u h4 e
variable {r ab:ay}{a:List ag}
section
variable {L0 W W' X:ax} {wb bb:Nat} {fs:List aI} {b:Bk} {vN vO vN' vO' :ay} {os os' :List ay} {k:Nat} {ys:List Wn} {dE:List Nat} {er ln:Nat}
theorem eA.xA (h:eA L0 W wb bb fs b vN vO os k ys dE er ln)(a:∀u∈os',u.ownBlock=none\/u∈os):eA L0 W wb bb fs b vN vO os' k ys dE er ln:=⟨h.row,h.cV,h.bU,h.lt,h.aQ,h.aW,h.oz.mono a,λy f=>⟨(h.aF y f).1,(h.aF y f).2.mono a⟩,λi d j=>⟨(h.aH i d j).1,(h.aH i d j).2.mono a⟩⟩
theorem eA.out (h:eA L0 W wb bb fs b vN vO os ys.length ys dE er ln)(k:Nat):eA L0 W wb bb fs b vN vO os k ys dE er ln:=⟨h.row,h.cV,h.bU,h.lt,h.aQ,h.aW,h.oz,h.aF,λd a _=>h.aH d a (by omega)⟩
theorem eA.ret (h:eA L0 W wb bb fs b vN vO os k ys dE er ln)(a:∀a:k<ys.length,e_ W ys[k].vc ys[k].cs/\Fz W wb os ys[k].vc):eA L0 W wb bb fs b vN vO os ys.length ys dE er ln:=
 ⟨h.row,h.cV,h.bU,h.lt,h.aQ,h.aW,h.oz,h.aF,λf d _=>by
  by_cases e:f=k
  ·subst e;exact a d
  ·exact h.aH f d e⟩
theorem eA.aE (h:eA L0 W wb bb fs b vN vO os k ys dE er ln)(a:Below W.heap.size W X):eA L0 X wb bb fs b vN vO os k ys dE er ln:=by have d:dN W X wb os os:=dN.bA a (VA h.row.lt);exact⟨h.row.aE a,h.cV,h.bU.tr a,h.lt,bT h.aQ λk n=>a.block k (T3 h.aQ k n).2,h.aW.aE a,h.oz.cF d,λy i=>⟨(h.aF y i).1.aE a,(h.aF y i).2.cF d⟩,λj f m=>⟨(h.aH j f m).1.aE a,(h.aH j f m).2.cF d⟩⟩
theorem eA.aZ (h:eA L0 W wb bb fs b vN vO os k ys dE er ln)(a o r n:Nat)(i:(a=3/\o=n/\r=ln)\/(a=4/\o=er/\r=n)):eA L0 (W.setCell ⟨wb,a,none⟩ (dg n)) wb bb fs b vN vO os k ys dE o r:=by
 have u:∀q,q≠wb->(W.setCell ⟨wb,a,none⟩ (dg n)).heap[q]?=W.heap[q]?:=λq f=>T5 _ _ _ _ f;have x:Below wb W (W.setCell ⟨wb,a,none⟩ (dg n)):=(TF _ _).setCell (p:=⟨wb,a,none⟩) ak _;have d:dN W (W.setCell ⟨wb,a,none⟩ (dg n)) wb os os:=⟨x,λq _ z _=>u q z,λv D _ f=> .inr ⟨v,D,f⟩⟩;refine⟨?_,h.cV,h.bU.trans (x.mono h.lt),h.lt,bT h.aQ λq f=>u q ?_,h.aW.cF h.oz d,h.oz.cF d,λy j=>⟨(h.aF y j).1.cF (h.aF y j).2 d,(h.aF y j).2.cF d⟩,λa i m=>⟨(h.aH a i m).1.cF (h.aH a i m).2 d,(h.aH a i m).2.cF d⟩⟩
 ·have E:=h.row.set a (dg n);rcases i with⟨rfl,rfl,rfl⟩|⟨rfl,rfl,rfl⟩<;>exact E
 ·have:=(T3 h.aQ q f).1;omega
theorem eA.ej {g cap n:Nat}{v:ay}{c:ag}(D:ys.length=n)(h:eA L0 W wb bb fs b (.slice (some ⟨g,0,none⟩) n cap) vO [.slice (some ⟨g,0,none⟩) n cap,r] k ys dE er ln)(R:k<ys.length)(Q:W.ownsRow (wb+1) 9 1 r a.length (a.map aK))(i:W.grownBy X r.ownBlock)(S:X.ownsRow (wb+1) 9 1 v (a.length+1) (a.map aK++[aK c]))(ac:v.ownBlock=r.ownBlock\/∃q,v.ownBlock=some q/\W.heap.size<=q):
 eA L0 (X.setCell ⟨g,k*7+6,none⟩ v) wb bb fs b (.slice (some ⟨g,0,none⟩) n cap) vO [.slice (some ⟨g,0,none⟩) n cap,v] k (ys.set k {ys[k] with cs:=a++[c],vc:=v}) dE er ln/\(X.setCell ⟨g,k*7+6,none⟩ v).ownsRow (wb+1) 9 1 v (a++[c]).length ((a++[c]).map aK)/\X.frozen? ⟨g,k*7+6,none⟩=false/\X.ownsRow (wb+1) 116 7 (.slice (some ⟨g,0,none⟩) n cap) n (ys.flatMap iH)/\(∀q t J,aG W q t J->q≠g->some q≠r.ownBlock->aG (X.setCell ⟨g,k*7+6,none⟩ v) q t J):=by
 subst D;have V:=h.lt;have af:=T3 h.aQ g rfl;have ad:∀q,r.ownBlock=some q->q≠g:=λq d e=>cG.ap Q h.aQ (by decide) q d (by rw[e];rfl);have aU:∀q,q≠g->(X.setCell ⟨g,k*7+6,none⟩ v).heap[q]?=X.heap[q]?:=λq d=>T5 _ _ _ _ d;have I:∀q,q<W.heap.size->q≠g->some q≠r.ownBlock->(X.setCell ⟨g,k*7+6,none⟩ v).heap[q]?=W.heap[q]?:=λq E j H=>(aU q j).trans (i.block q E H);have ab:∀q,r.ownBlock=some q->wb<q:=λq d=>by have:=(T3 Q q d).1;omega
 have hb:Below wb W X:=⟨i.os,i.tape,i.output,i.size,λq d=>i.block q (by have:=h.row.lt;omega) (λe=>by have:=ab q e.symm;omega)⟩;have aa:=hb.setCell (p:=⟨g,k*7+6,none⟩) (show wb<=g by omega) v;have G:X.ownsRow (wb+1) 116 7 (.slice (some ⟨g,0,none⟩) ys.length cap) ys.length (ys.flatMap iH):=bT h.aQ λq d=>i.block q (T3 h.aQ q d).2 (λe=>ad q e.symm (by cases d;rfl));have o:dN W (X.setCell ⟨g,k*7+6,none⟩ v) wb [.slice (some ⟨g,0,none⟩) ys.length cap,r] [.slice (some ⟨g,0,none⟩) ys.length cap,v]:=by
  refine⟨aa,λq E _ H=>I q E (λe=>H _ (TY ..) (by rw[e];rfl)) (H r (by simp)),λu hu q d=> ?_⟩;simp only[Ue,Vl,Xm] at hu;rcases hu with rfl|rfl
  ·exact .inr ⟨_,TY ..,d⟩
  ·rcases ac with e|⟨p,e,e2⟩
   ·exact .inr ⟨r,by simp,e▸d⟩
   ·rw[e] at d;cases d;exact .inl e2
 have ae:∀y∈ys.set k {ys[k] with cs:=a++[c],vc:=v},∃z∈ys,z.vn=y.vn/\z.x=y.x:=λy O=>by
  rcases VK O with q|q
  ·exact⟨y,q,rfl,rfl⟩
  ·exact⟨ys[k],TV R,by rw[q],by rw[q]⟩
 refine⟨⟨(I wb h.row.lt (by omega) (λe=>by have:=ab wb e.symm;omega)).trans h.row,h.cV,h.bU.trans (aa.mono V),V,?_,h.aW.cF h.oz o,h.oz.cF o,λy O=> ?_,λm hj D=> ?_⟩,?_,ua G _,G,λq t J Z E j=>(I q Z.lt E j).trans Z⟩
 ·have j:=qU G (k*7+6) v;rw[Hk (f:=iH) (λ_=>rfl) ys k 6 {ys[k] with cs:=a++[c],vc:=v} v R rfl (by decide)] at j;rw[UB];exact j
 ·obtain⟨z,M,z2,z3⟩:=ae y O;rw[<-z2,<-z3];exact⟨(h.aF z M).1.cF (h.aF z M).2 o,(h.aF z M).2.cF o⟩
 ·have N :m<ys.length:=by simpa using hj
  have e:(ys.set k {ys[k] with cs:=a++[c],vc:=v})[m]=ys[m]:=abb (λe=>D e.symm) _;rw[e];exact⟨(h.aH m N D).1.cF (h.aH m N D).2 o,(h.aH m N D).2.cF o⟩
 ·rw[TE,T'];refine bT (by simpa using S) λq d=>aU q (λe=>cG.ap S G (by decide) q d (by rw[e];rfl))
end
def AR (S:(Nat×Nat)⊕List ag)(er ln:Nat)(a:List ag):Prop:=match S with
 | .inl q=>er=q.1/\ln=q.2
 | .inr l=>er=0/\ln=0/\a=l
def ID (L0:ax)(wb bb:Nat)(fs:List aI)(b:Bk)(vN vO:ay)(ys:List Wn)(k:Nat)(dE:List Nat)(S:(Nat×Nat)⊕List ag)(e:Ending)(W' :ax):Prop:=(∃v,e= .returned v)/\∃d i f a,eA L0 W' wb bb fs b vN vO [vN] ys.length (ys.set k {ys.getD k iA with cs:=d,vc:=i }) dE f a /\AR S f a d
structure rG (L0:ax)(wb bb:Nat)(fs:List aI)(b:Bk)(vN vO:ay)(y:Wn)(ys:List Wn)(k:Nat)(dE:List Nat)(sb rb:Nat)(g:Sg)(rv:List ay)(aH:List (ag×Nat))(S:(Nat×Nat)⊕List ag)(i:Nat)(aC:List ag)(vC:ay)(wr:ax):Prop where
 wo:eA L0 wr wb bb fs b vN vO [vN,vC] k (ys.set k {y with cs:=aC,vc:=vC}) dE 0 0
 bI:wr.ownsRow (wb+1) 9 1 vC aC.length (aC.map aK)
 sg:aG wr sb 152 [.bool g.on,aK g.ja,aK g.first,aK g.all,aK g.stem]
 ru:aG wr rb 147 rv
 gG:aC.length<=i
 go:pB (nR b.aV) (jf g) (aH.drop i) aC S
theorem eA.Is {L0 wr:ax}{wb bb:Nat}{fs:List aI}{b:Bk}{vN vO:ay}{y:Wn}{ys:List Wn}{k:Nat}{dE:List Nat}{er ln:Nat}(h:eA L0 wr wb bb fs b vN vO [vN,r] k (ys.set k {y with cs:=a,vc:=r}) dE er ln)(d:wr.ownsRow (wb+1) 9 1 r a.length (a.map aK)):eA L0 wr wb bb fs b vN vO [vN] ys.length (ys.set k {y with cs:=a,vc:=r}) dE er ln:=by
 have j:=(h.xA (os' :=[vN]) (λu f=> .inr (by rw[TL.1 f];exact TY ..))).ret λn=>by rw[WB];refine⟨ep.tL d,λq i=> ?_⟩;have m:=T3 d q i;exact⟨m.2,by omega,λu f=>by rw[TL.1 f];exact cG.ap d h.aQ (by decide) q i⟩
 rw[UB] at j;exact j
variable {i E N:Nat}
theorem rG.aE {L0 wr w' :ax}{wb bb rb k:Nat}{fs:List aI}{b:Bk}{vN vO:ay}{y:Wn}{ys:List Wn}{dE:List Nat}{g:Sg}{f:List (ag×Nat)}{S:(Nat×Nat)⊕List ag}(h:rG L0 wb bb fs b vN vO y ys k dE i rb g z f S E a r wr)(d:Below wr.heap.size wr w'):rG L0 wb bb fs b vN vO y ys k dE i rb g z f S E a r w' :=⟨h.wo.aE d,bT h.bI λq j=>d.block q (T3 h.bI q j).2,h.sg.aE d,h.ru.aE d,h.gG,h.go⟩
theorem PV (t:ag)(a:t.length<=2000)(w:ax):Calls prog 73 #[.string ⟨t.toArray⟩] w λe w'=>e= .returned (.string ⟨(Mk.cut t).toArray⟩)/\w=w' :=by have:=lr ⟨t.toArray⟩ w (by rw[eh];omega);exact this
theorem La {L0 W:ax}{wb bb g cap:Nat}{fs:List aI}{b:Bk}{vO:ay}{ys:List Wn}{k:Nat}{dE:List Nat}{S:(Nat×Nat)⊕List ag}(h:eA L0 W wb bb fs b (.slice (some ⟨g,0,none⟩) ys.length cap) vO [.slice (some ⟨g,0,none⟩) ys.length cap] ys.length ys dE 0 0)(hk:k<ys.length)(hc:ys[k].cs=[])(hv:ys[k].vc= .slice none 0 0)(hS:mi b)(hg:xy (sd (eC b ys[k].x)))(bs:∀i,ys[k].x.gu =some i->i<b.aD.length)(a7:ys[k].x.aF.length<=4294967296)(hO:pB (nR b.aV) (eC b ys[k].x).sg (eC b ys[k].x).aH [] S):
 Calls prog 54 #[.pointer (some ⟨wb,0,none⟩),.pointer (some ⟨g,k*7,none⟩)] W λe W'=>ID L0 wb bb fs b (.slice (some ⟨g,0,none⟩) ys.length cap) vO ys k dE S e W' :=by
 have bK:ys.getD k iA=ys[k]:=by rw[TO,TH hk];rfl
 have aU:∀al u,(iH ys[k])[al]?=some u->W.cell? ⟨g,k*7+al,none⟩=some u:=λal u Z=>by have hj:al<7:=(TZ.1 Z).1;exact gx h.aQ _ u (by rw[pk (f:=iH) (λ_=>rfl) ys k al hk hj];exact Z)
 have n2:=aU 2 _ rfl;unfold gI at n2;have a6:=aB bK;have H:=aB h;have bu:ys.set k {ys[k] with cs:=[],vc:= .slice none 0 0}=ys:=by
  have e:({ys[k] with cs:=[],vc:= .slice none 0 0}:Wn)=ys[k]:=by rw[<-hc,<-hv]
  rw[e,YW]
 have a5:=aB bu;have ap:=aB aU;have HO:=aB hO;have bO:=h.aF ys[k] (TV hk);have aN:=aB bO;clear h bK bu aU hO bO hc hv;generalize hy:ys[k]=y at*;cases m:y.x.gu with
 |none=>
  have cm:Hid (S= .inr []):=aB (by have:=HO.u;unfold eC at this;rw[m] at this;exact this);rw[m] at n2;unfold im at n2;go_enter func54,ntmps54;go_wp2_with fail
  refine Ua (U' rfl _ _ _) rfl ?_;exact⟨⟨_,rfl⟩,[],.slice none 0 0,0,0,by rw[a6.u,a5.u];exact H.u,by rw[cm.u];exact⟨rfl,rfl,rfl⟩⟩
 |some r=>
  have a8:=bs r m;rw[m] at n2;unfold im at n2;have n0:=ap.u 0 _ rfl;have n1:=ap.u 1 _ rfl;have n3:=ap.u 3 _ rfl;rw[Ve] at n0;unfold aK at n0 n3;obtain⟨av,kv,aw⟩:=aN.u.1.iN;rw[aw] at n1;have b3:y.x.aF.length<=4294967296:=a7;have CJ:Hid (∀w,Below W.heap.size W w->Calls prog 71 #[.slice av y.x.aF.length kv] w λe w'=>e= .returned (.string ⟨([32].intercalate y.x.aF).toArray⟩)/\w=w'):=aB λw m=>by rw[<-aw];exact Nq (aN.u.1.aE m) (by have:=hg.all;unfold sd eC at this;have N:([32].intercalate y.x.aF).length<=1310000:=this;omega) a7
  have cA:=aB (show ∀W',Below W.heap.size W W' ->eA L0 W' wb bb fs b (.slice (some ⟨g,0,none⟩) ys.length cap) vO [.slice (some ⟨g,0,none⟩) ys.length cap] ys.length ys dE 0 0 from λW' m=>H.u.aE m);have b6:=T3 H.u.aQ g rfl;have cG:=H.u.row.lt;have b2:=aB aw;have HG:=aB hg;generalize cd:[32].intercalate y.x.aF=all at*;clear a7 b3 aw hg bs;go_enter func54,ntmps54;go_upto_region 1 with fail
  go_cut [4] from 5 (λpv wx=>pv= .pointer (some ⟨W.heap.size,0,none⟩)/\Hid (aG wx W.heap.size 152 [.bool true,.string ⟨y.x.name.toArray⟩,.string ⟨#[]⟩,.string ⟨all.toArray⟩,.string ⟨y.x.stem.toArray⟩])/\Hid (Below W.heap.size W wx))
  case first=>
   go_region_held3 (λw'=>w'.cell? ⟨g,k*7,none⟩=some (.string ⟨y.x.name.toArray⟩)/\w'.cell? ⟨g,k*7+1,none⟩=some (.slice av y.x.aF.length kv)/\w'.cell? ⟨g,k*7+3,none⟩=some (.string ⟨y.x.stem.toArray⟩)) (first|with_reducible exact⟨n0,n1,n3⟩|go_keep) (first|(go_at_call 71;refine(CJ.u _ (TF _ W).drew).mono ?_;rintro e w5 ⟨rfl,R⟩;subst R)|(go_at_call 71;refine(CJ.u _ ((TF _ W).drew.alloc ak _)).mono ?_;rintro e w5 ⟨rfl,R⟩;subst R)|(go_at_call 71;refine(CJ.u _ (aj W _).drew).mono ?_;rintro e w5 ⟨rfl,R⟩;subst R)|fail)
   all_goals go_wp2_with fail
   all_goals go_meet
   all_goals exact⟨rfl,aB (aG.bA W 152 [.bool true,.string ⟨y.x.name.toArray⟩,.string ⟨#[]⟩,.string ⟨all.toArray⟩,.string ⟨y.x.stem.toArray⟩]),aB ((aj W _).drew)⟩
  case rest=>
   obtain⟨rfl,ab,am⟩:=hcut;have cB:=ab.u.lt;generalize cv:W.heap.size=sb at*;have aL:=aB cv;have f2:=ab.u.frozen 2;have s2:=ab.u.cell 2 (by simp);simp only[TG,TI] at s2;have b5 :=(am.u.cell (p:=⟨g,k*7+1,none⟩) (by show g<_;omega)).trans n1;go_upto_if 34 with fail
   go_cut [] from 5 (λwx=>Hid (aG wx sb 152 [.bool true,.string ⟨y.x.name.toArray⟩,.string ⟨(y.x.aF.headD []).toArray⟩,.string ⟨all.toArray⟩,.string ⟨y.x.stem.toArray⟩])/\Hid (Below sb W wx))
   case first=>
    by_cases h0:0<y.x.aF.length
    ·have t0:(0:Int)<(y.x.aF.length:Int):=by omega
     obtain⟨a9,k9,D,M,ah,af,ae⟩:=aN.u.1.aE (aL.u▸am.u);rw[b2.u] at ah;cases ah;obtain⟨rfl,-⟩:=af h0;have e9:=ae 0 h0;rw[Ve] at e9;unfold aK at e9;have az:Hid (y.x.aF.headD []=y.x.aF[0]):=aB (by rw[List.headD_eq_head?_getD,List.head?_eq_getElem?,TH h0];rfl);clear af ae;generalize y.x.aF[0]=z at*;go_wp2_with fail
     go_meet
     case rel=>exact⟨aB (by rw[az.u];exact ab.u.set 2 _),aB (am.u.setCell (p:=⟨sb,2,none⟩) ak _)⟩
    ·have t0:¬(0:Int)<(y.x.aF.length:Int):=by omega
     have az:Hid (y.x.aF.headD []=[]):=aB (by rw[UH.1 (by omega:y.x.aF.length=0)];rfl);go_wp2_with fail
     go_meet
     case rel=>exact⟨aB (by rw[az.u];exact ab.u),am⟩
   case rest=>
    obtain⟨bg,bt⟩:=hcut;clear ab am f2 s2 b5;have aX:Below W.heap.size W wc:=aL.u▸bt.u;have N:=H.u.aE aX;obtain⟨a,bh,V,Q,q2,be,bW⟩:=H.u.cV.aD;obtain⟨rfl,cb⟩:=be (by omega);obtain⟨vt,vn,vs,vl,hR⟩:=bW r a8;have a0:=hS.aD _ (TV a8)
    have gp:(eC b y.x).aH=b.aD[r].cs:=by unfold eC;rw[m];show(b.aD.getD r cQ).cs=_;rw[TO,TH a8];rfl
    have aM:=HO.u;rw[gp,<-P4] at aM;generalize b.aD[r]=d at*;obtain⟨a1,k1,a2,k2,a3,G,a4,k4,rfl,rfl,rfl,rfl⟩:=hR.iN;obtain⟨cM,q1,b4⟩:=H.u.cV.aV;have a_:=H.u.cV.lt;obtain⟨an,cn,bn,on,bQ,-,-,-⟩:=b4;have HQ:Hid (∀X,Below L0.heap.size L0 X->X.cell? ⟨bb,2,none⟩=some (.slice (some ⟨V,Q,none⟩) b.aD.length bh)/\X.cell? ⟨bb,1,none⟩=some (.slice an b.aV.length cn)/\rH X V (Q+r*6) d (.slice a1 d.tg.length k1) (.slice a2 d.nd.length k2) (.slice a3 d.cs.length G) (.slice a4 d.cs.length k4)/\pN X (.slice an b.aV.length cn) b.aV):=aB λX hX=>by obtain⟨cC,bM,cp⟩:=H.u.cV.aV;rw[q1] at bM;cases bM;rw[<-bQ];exact⟨(hX.cell (p:=⟨bb,2,none⟩) a_).trans q2,(hX.cell (p:=⟨bb,1,none⟩) a_).trans q1,hR.aE cb hX,cp.aE hX⟩
    have c0:=N.row.cell 0 (by simp);simp only[TG] at c0;obtain⟨bY,-,cq,-⟩:=HQ.u _ N.bU;obtain⟨d0,d1,d2,d3,d4,d5,-,-,-,-⟩:=cq;have bp :=(aX.cell (p:=⟨g,k*7+2,none⟩) (by show g<W.heap.size;rw[aL.u];exact b6.2)).trans n2;have bk:=aB N;have br:Hid (sd (eC b y.x)=⟨true,y.x.name,y.x.aF.headD [],all,y.x.stem⟩):=aB (by unfold sd eC;rw[<-cd]);have bc:=aM;rw[br.u] at bc;have bR:=aB HG.u;rw[br.u] at bR;have bF:=aB bc;have cL:=a0.cs;have cf:=aB a0.To;have ch:=aB hS.aV;have cF:(r:Int)<(b.aD.length:Int):=by omega
    have cR:¬(r:Int)<0:=by omega
    have cJ:=N.row.lt;clear N aX q2 be bW gp aM bc q1 bQ hR a0 HO HG ap n0 n1 n3 n2 bt hS CJ cA;generalize y.x.aF.headD []=fst at*;obtain⟨O,rfl⟩:∃O,O=wc:=⟨wc,rfl⟩;go_upto_region 4 with fail
    go_cut [5] from 6 (λpv wx=>pv= .pointer (some ⟨O.heap.size,0,none⟩)/\Hid (aG wx O.heap.size 147 [.slice a1 d.tg.length k1,.slice a2 d.nd.length k2,.slice a3 d.cs.length G,.slice a4 d.cs.length k4,.bool d.b_,.bool d.ph])/\Hid (Below O.heap.size O wx))
    case first=>
     go_region_held3 (λw'=>w'.cell? ⟨wb,0,none⟩=some (.pointer (some ⟨bb,0,none⟩))/\w'.cell? ⟨bb,2,none⟩=some (.slice (some ⟨V,Q,none⟩) b.aD.length bh)/\w'.cell? ⟨g,k*7+2,none⟩=some (.int .i64 (r:Int))/\w'.cell? ⟨V,Q+r*6,none⟩=some (.slice a1 d.tg.length k1)/\w'.cell? ⟨V,Q+r*6+1,none⟩=some (.slice a2 d.nd.length k2)/\w'.cell? ⟨V,Q+r*6+2,none⟩=some (.slice a3 d.cs.length G)/\w'.cell? ⟨V,Q+r*6+3,none⟩=some (.slice a4 d.cs.length k4)/\w'.cell? ⟨V,Q+r*6+4,none⟩=some (.bool d.b_)/\w'.cell? ⟨V,Q+r*6+5,none⟩=some (.bool d.ph)) (first|with_reducible exact⟨c0,bY,bp,d0,d1,d2,d3,d4,d5⟩|go_keep) (first|fail)
     all_goals go_wp2_with fail
     all_goals go_meet
     all_goals exact⟨rfl,aB (aG.bA O 147 [.slice a1 d.tg.length k1,.slice a2 d.nd.length k2,.slice a3 d.cs.length G,.slice a4 d.cs.length k4,.bool d.b_,.bool d.ph]),aB ((aj O _).drew)⟩
    case rest=>
     obtain⟨rfl,bj,ba⟩:=hcut;have b0:Hid (eA L0 wc wb bb fs b (.slice (some ⟨g,0,none⟩) ys.length cap) vO [.slice (some ⟨g,0,none⟩) ys.length cap,.slice none 0 0] k (ys.set k {y with cs:=[],vc:= .slice none 0 0}) dE 0 0):=aB (by
      rw[a5.u];exact((bk.u.aE ba.u).out k).xA λu Z=>by
       simp only[Ue,Vl,Xm] at Z;rcases Z with rfl|rfl
       ·exact .inr (TL.2 rfl)
       ·exact .inl rfl)
     have bl:=aB (bg.u.aE ba.u);generalize O.heap.size=rb at*;clear ba bk bg c0 bY d0 d1 d2 d3 d4 d5 bp a5;have b7:Hid (rG L0 wb bb fs b (.slice (some ⟨g,0,none⟩) ys.length cap) vO y ys k dE sb rb ⟨true,y.x.name,fst,all,y.x.stem⟩ [.slice a1 d.tg.length k1,.slice a2 d.nd.length k2,.slice a3 d.cs.length G,.slice a4 d.cs.length k4,.bool d.b_,.bool d.ph] d.cs S 0 [] (.slice none 0 0) wc):=aB ⟨b0.u,Uk _ _ _ _,bl.u,bj.u,TD _,bF.u⟩;clear b0 bl bj bF;go_wp2_with fail
     go_loopw [6] (λiv wr=>∃(i:Nat) (E:List ag) (v:ay),iv= .int .i64 i/\i<=d.cs.length/\Hid (rG L0 wb bb fs b (.slice (some ⟨g,0,none⟩) ys.length cap) vO y ys k dE sb rb ⟨true,y.x.name,fst,all,y.x.stem⟩ [.slice a1 d.tg.length k1,.slice a2 d.nd.length k2,.slice a3 d.cs.length G,.slice a4 d.cs.length k4,.bool d.b_,.bool d.ph] d.cs S i E v wr)) (λiv _=>d.cs.length-aS iv)
     case atStart=>exact⟨0,[],_,rfl,TS _,b7⟩
     case round=>
      obtain⟨i,E,v,rfl,hi,n⟩:=hrel;have x2:=n.u.ru.cell 2 (by simp);simp only[TG,TI] at x2;by_cases bq:i<d.cs.length
      ·have ti:(i:Int)<(d.cs.length:Int):=by omega
       have x3:=n.u.ru.cell 3 (by simp);have z0:=n.u.sg.cell 0 (by simp);have z1:=n.u.sg.cell 1 (by simp);have z2:=n.u.sg.cell 2 (by simp);have z3:=n.u.sg.cell 3 (by simp);have z4:=n.u.sg.cell 4 (by simp);have w0:=n.u.wo.row.cell 0 (by simp);simp only[TG,TI] at x3 z0 z1 z2 z3 z4 w0;unfold aK at z1 z2 z3 z4;obtain⟨-,p1,aR,b1⟩:=HQ.u _ n.u.wo.bU;obtain⟨a9,k9,D,M,ah,af,ae⟩:=aR.st;have bG:(d.cs.map (·.1)).length=d.cs.length:=TR ..;rw[bG] at ah;cases ah;obtain⟨rfl,ck⟩:=af (by omega);have e9:wr.cell? ⟨D,M+i,none⟩=some (.string ⟨(d.cs[i].1).toArray⟩):=by have:=ae i (by omega);rw[Ut] at this;exact this
       obtain⟨cH,cP,b8,o8,bZ,bB,bz⟩:=aR.ln;have aA:(d.cs.map (·.2)).length=d.cs.length:=TR ..;rw[aA] at bZ;cases bZ;obtain⟨rfl,bH⟩:=bB (by omega);have cO:b8<L0.heap.size:=by obtain⟨a',c',b',o',e',g2,-⟩:=(HQ.u L0 (TF _ _)).2.2.1.ln;rw[aA] at e';cases e';obtain⟨e1,e2⟩:=g2 (by omega);cases e1;exact e2
       have e8:wr.cell? ⟨b8,o8+i,none⟩=some (.int .i64 (d.cs[i].2:Int)):=by have:=bz i (by omega);rw[Ut] at this;exact this
       have bX:=n.u.go;rw[T2 bq] at bX;obtain⟨er,bd,J⟩:=bX;have cz:=cf.u _ (TV bq);have CE:Hid (∀w,Below wr.heap.size wr w->Calls prog 72 #[.slice an b.aV.length cn,.string ⟨(d.cs[i].1).toArray⟩,.agg #[.bool true,.string ⟨y.x.name.toArray⟩,.string ⟨fst.toArray⟩,.string ⟨all.toArray⟩,.string ⟨y.x.stem.toArray⟩]] w λe W'=>e= .returned (kf er)/\Below w.heap.size w W'):=aB λw m=>C' (b1.aE m) ch.u bR.u cz.1 bd;have ce:er.bE.length<=2000:=by obtain⟨f,hf⟩:=bd;exact p_ f _ _ _ _ _ hf
       have bv:=aB J;have ci:=n.u.wo.row.lt;have cg:bb<wr.heap.size:=T7 a_ n.u.wo.bU.size;have cW:=n.u.gG;clear af ae bB bz aR b1 bd J bG aA;have ad:=n.u.sg.lt;generalize d.cs[i]=cc at*;have aY:=n.u.ru.lt;have bD:Hid (∀o,Below wr.heap.size wr o->o.cell? ⟨wb,0,none⟩=some (.pointer (some ⟨bb,0,none⟩))/\o.cell? ⟨bb,1,none⟩=some (.slice an b.aV.length cn)/\o.cell? ⟨rb,2,none⟩=some (.slice (some ⟨D,M,none⟩) d.cs.length G)/\o.cell? ⟨D,M+i,none⟩=some (.string ⟨cc.1.toArray⟩)/\o.cell? ⟨sb,0,none⟩=some (.bool true)/\o.cell? ⟨sb,1,none⟩=some (.string ⟨y.x.name.toArray⟩)/\o.cell? ⟨sb,2,none⟩=some (.string ⟨fst.toArray⟩)/\o.cell? ⟨sb,3,none⟩=some (.string ⟨all.toArray⟩)/\o.cell? ⟨sb,4,none⟩=some (.string ⟨y.x.stem.toArray⟩)):=aB λo m=>⟨(m.cell (p:=⟨wb,_,none⟩) ci).trans w0,(m.cell (p:=⟨bb,_,none⟩) cg).trans p1,(m.cell (p:=⟨rb,_,none⟩) aY).trans x2,(m.cell (p:=⟨D,_,none⟩) ck).trans e9,(m.cell (p:=⟨sb,_,none⟩) ad).trans z0,(m.cell (p:=⟨sb,_,none⟩) ad).trans z1,(m.cell (p:=⟨sb,_,none⟩) ad).trans z2,(m.cell (p:=⟨sb,_,none⟩) ad).trans z3,(m.cell (p:=⟨sb,_,none⟩) ad).trans z4⟩;by_cases ez:er.er=0
       ·rw[uM ez] at CE;have J:=bv.u;rw[TJ (λe=>e ez)] at J;have CT:=aB (PV er.bE ce);go_upto_region 8 with fail
        go_region_held3 (λw'=>w'.cell? ⟨wb,0,none⟩=some (.pointer (some ⟨bb,0,none⟩))/\w'.cell? ⟨bb,1,none⟩=some (.slice an b.aV.length cn)/\w'.cell? ⟨rb,2,none⟩=some (.slice (some ⟨D,M,none⟩) d.cs.length G)/\w'.cell? ⟨D,M+i,none⟩=some (.string ⟨cc.1.toArray⟩)/\w'.cell? ⟨sb,0,none⟩=some (.bool true)/\w'.cell? ⟨sb,1,none⟩=some (.string ⟨y.x.name.toArray⟩)/\w'.cell? ⟨sb,2,none⟩=some (.string ⟨fst.toArray⟩)/\w'.cell? ⟨sb,3,none⟩=some (.string ⟨all.toArray⟩)/\w'.cell? ⟨sb,4,none⟩=some (.string ⟨y.x.stem.toArray⟩)) (first|with_reducible exact⟨w0,p1,x2,e9,z0,z1,z2,z3,z4⟩|with_reducible exact ai|go_keep) (first|(go_at_call 72;refine(CE.u _ (TF _ wr).drew).mono ?_;rintro e o ⟨rfl,ao⟩;have I :=(TF _ wr).drew.trans ao;have ai:=bD.u o I;have j:=aB (n.u.aE I);have cr :=(I.cell (p:=⟨rb,3,none⟩) aY).trans x3;have cu :=(I.cell (p:=⟨b8,o8+i,none⟩) bH).trans e8;clear ao I)|fail)
        clear ai w0 p1 x2 e9 z0 z1 z2 z3 z4 x3 e8;by_cases ec:Mk.cut er.bE=[]
        ·rw[ec] at CT;rw[TP ec] at J;have HN:Hid (rG L0 wb bb fs b (.slice (some ⟨g,0,none⟩) ys.length cap) vO y ys k dE sb rb ⟨true,y.x.name,fst,all,y.x.stem⟩ [.slice a1 d.tg.length k1,.slice a2 d.nd.length k2,.slice (some ⟨D,M,none⟩) d.cs.length G,.slice (some ⟨b8,o8,none⟩) d.cs.length k4,.bool d.b_,.bool d.ph] d.cs S (i+1) E v o):=aB ⟨j.u.wo,j.u.bI,j.u.sg,j.u.ru,by omega,J⟩;clear J;go_wp2_with (first|(go_at_call 73;refine(CT.u _).mono ?_;rintro e _ ⟨rfl,R⟩;subst R)|fail)
         first
          |exact⟨⟨i+1,E,v,by go_num,by omega,HN⟩,by simp only[aS];omega⟩
          |(go_roundw;exact⟨i+1,E,v,by go_num,by omega,HN⟩;simp only[aS];omega)
        ·rw[TJ ec] at J;have cI:(Mk.cut er.bE==[])=false:=by rw[TQ];exact ec
         have cT:(Mk.cut er.bE !=[])=true:=by rw[UY];exact ec
         have aa:=j.u.wo.aQ;rw[UB] at aa;obtain⟨ac,kc,ar⟩:=dX j.u.bI;have l6:=gx aa (k*7+6) v (by rw[pk (f:=iH) (λ_=>rfl) _ k 6 (by rw[UB];exact hk) (by decide),WB];rfl);rw[ar] at l6;have bo:=aB j.u.bI;rw[ar] at bo;have cU:=(T3 aa g rfl).2;have cK:=(T3 aa g rfl).1;obtain⟨i0,bC,bN,bS,bx⟩:=UF Tryz.kJ;have bP:sb≠g:=λe=>uk j.u.sg aa (by decide) (by rw[e];rfl);have bm:some sb≠v.ownBlock:=uk j.u.sg j.u.bI (by decide);have bV:rb≠g:=λe=>uk j.u.ru aa (by decide) (by rw[e];rfl);have bw:some rb≠v.ownBlock:=uk j.u.ru j.u.bI (by decide);have cw:=aB bC;have cx:=aB bN;have cy:=aB bS;have co:=aB bx;have aq:Hid (some sb≠v.ownBlock/\some rb≠v.ownBlock/\sb≠g/\rb≠g):=aB ⟨bm,bw,bP,bV⟩;have bJ:=aB ar;have cj:=aB J;have cS:=j.u.wo.row.lt;clear aa ar bC bN bS bx bP bm bV bw J;generalize Mk.cut er.bE=ct at*;go_wp2_with (first|(go_at_call 73;refine(CT.u _).mono ?_;rintro e _ ⟨rfl,R⟩;subst R)|(at_builtin;refine Uu _ rfl (.tmp 101) (.tmp 103) 30 rfl (wb+1) 9 i0 _ 1 16 UC cw.u cx.u cy.u co.u rfl (by decide) _ E.length _ rfl (T_ bo.u _) ⟨_,0,none⟩ 1 1 [aK er.bE] rfl rfl (gw _ _ [aK er.bE]) (by intro u Z;simp at Z;subst Z;rfl) (by unfold maxLen;omega) (by omega) (by rw[TM];omega) ?_;intro v1 w3 aW aT cl aJ;rw[<-bJ.u] at aT aJ;obtain⟨g1,ca,rfl,-,-⟩:=d_ aW (by omega);obtain⟨q1,q2,q3,q4,q5⟩:=j.u.wo.ej (by rw[UB]) (by rw[UB];exact hk) j.u.bI ((UK o _ _).trans aT) aW (by rcases aJ with e|e;exact .inl e;exact .inr ⟨_,e,by simp⟩);rw[WB,List.set_set] at q1;have g6:=gx q4 (k*7+6) v (by rw[pk (f:=iH) (λ_=>rfl) _ k 6 (by rw[UB];exact hk) (by decide),WB];rfl);rw[bJ.u] at g6;have HN:Hid (rG L0 wb bb fs b (.slice (some ⟨g,0,none⟩) ys.length cap) vO y ys k dE sb rb ⟨true,y.x.name,fst,all,y.x.stem⟩ [.slice a1 d.tg.length k1,.slice a2 d.nd.length k2,.slice (some ⟨D,M,none⟩) d.cs.length G,.slice (some ⟨b8,o8,none⟩) d.cs.length k4,.bool d.b_,.bool d.ph] d.cs S (i+1) (E++[er.bE]) (.slice (some ⟨g1,0,none⟩) (E.length+1) ca) _):=aB ⟨q1,q2,q5 _ _ _ j.u.sg aq.u.2.2.1 aq.u.1,q5 _ _ _ j.u.ru aq.u.2.2.2 aq.u.2.1,by rw[TE,T6];omega,cj.u⟩;clear aW aT cl aJ q1 q2 q4 q5)|fail)
         first
          |exact⟨⟨i+1,_,_,by go_num,by omega,HN⟩,by simp only[aS];omega⟩
          |(go_roundw;exact⟨i+1,_,_,by go_num,by omega,HN⟩;simp only[aS];omega)
       ·have te:((er.er:Int) !=0)=true:=by rw[UY];omega
        rw[ur ez] at CE;have aO:Hid (S= .inl (er.er,cc.2)):=aB (by have:=bv.u;rw[TP ez] at this;exact this);go_upto_region 8 with fail
        go_region_held3 (λw'=>w'.cell? ⟨wb,0,none⟩=some (.pointer (some ⟨bb,0,none⟩))/\w'.cell? ⟨bb,1,none⟩=some (.slice an b.aV.length cn)/\w'.cell? ⟨rb,2,none⟩=some (.slice (some ⟨D,M,none⟩) d.cs.length G)/\w'.cell? ⟨D,M+i,none⟩=some (.string ⟨cc.1.toArray⟩)/\w'.cell? ⟨sb,0,none⟩=some (.bool true)/\w'.cell? ⟨sb,1,none⟩=some (.string ⟨y.x.name.toArray⟩)/\w'.cell? ⟨sb,2,none⟩=some (.string ⟨fst.toArray⟩)/\w'.cell? ⟨sb,3,none⟩=some (.string ⟨all.toArray⟩)/\w'.cell? ⟨sb,4,none⟩=some (.string ⟨y.x.stem.toArray⟩)) (first|with_reducible exact⟨w0,p1,x2,e9,z0,z1,z2,z3,z4⟩|with_reducible exact ai|go_keep) (first|(go_at_call 72;refine(CE.u _ (TF _ wr).drew).mono ?_;rintro e o ⟨rfl,ao⟩;have I :=(TF _ wr).drew.trans ao;have ai:=bD.u o I;have j:=aB (n.u.aE I);have cr :=(I.cell (p:=⟨rb,3,none⟩) aY).trans x3;have cu :=(I.cell (p:=⟨b8,o8+i,none⟩) bH).trans e8;clear ao I)|fail)
        clear ai w0 p1 x2 e9 z0 z1 z2 z3 z4 x3 e8;have y1:=j.u.wo.aZ 3 er.er 0 er.er (.inl ⟨rfl,rfl,rfl⟩);have y2:=y1.aZ 4 er.er cc.2 cc.2 (.inr ⟨rfl,rfl,rfl⟩);have f3:=j.u.wo.row.frozen 3;have f4:=y1.row.frozen 4;have g3:=j.u.wo.row.cell 3 (by simp);have g4:=j.u.wo.row.cell 4 (by simp);simp only[TG,TI] at g3 g4;have cN:rb≠wb:=λe=>by have h1:=j.u.ru;have N:=j.u.wo.row;rw[e] at h1;unfold aG at h1 N;rw[h1] at N;simp at N
        have cD:b8≠wb:=λe=>by have:=j.u.wo.lt;omega
        have au:=aB (y2.Is (bT j.u.bI λq hq=>(T5 _ ⟨wb,4,none⟩ _ q (by show q≠wb;have:=(T3 j.u.bI q hq).1;omega)).trans (T5 _ ⟨wb,3,none⟩ _ q (by show q≠wb;have:=(T3 j.u.bI q hq).1;omega))));unfold dg at au f4;clear y1 y2;go_wp2_with fail
        refine Ua (U' rfl _ _ _) rfl ?_;exact⟨⟨_,rfl⟩,E,v,er.er,cc.2,by rw[a6.u];exact au.u,by rw[aO.u];exact⟨rfl,rfl⟩⟩
      ·have ti:¬(i:Int)<(d.cs.length:Int):=by omega
       have aO:Hid (S= .inr E):=aB (by have:=n.u.go;rw[U_ (by omega)] at this;exact this);have au:=aB (n.u.wo.Is n.u.bI);go_wp2_with fail
       refine Ua (U' rfl _ _ _) rfl ?_;exact⟨⟨_,rfl⟩,E,v,0,0,by rw[a6.u];exact au.u,by rw[aO.u];exact⟨rfl,rfl,rfl⟩⟩
theorem yD {rec:Wk->ag->Option (Nat×Wk)}(h:∀t n q,rec t n=some q->q.2.aW.length+t.aQ.length=t.aW.length+q.2.aQ.length):∀(l:List ag) (t:Wk) (q:Nat×Wk),fJ rec l t=some q->q.2.aW.length+t.aQ.length=t.aW.length+q.2.aQ.length
 |[],t,q,e=>by cases e;rfl
 |n::l,t,q,e=>by
  unfold fJ at e;cases d:dj t.aQ n with
  |none=>
   rw[d] at e;simp only at e;cases a:rec t n with
   |none=>rw[a] at e;cases e
   |some f=>
    rw[a] at e;simp only at e;have i:=h t n f a;split at e
    ·cases e;exact i
    ·have:=yD h l _ q e;omega
  |some f=>
   rw[d] at e;simp only at e;split at e
   ·exact yD h l _ q e
   ·cases e;rfl
theorem yU (b:Bk)(fs:List aI):∀(f:Nat) (t:Wk) (n:ag) (q:Nat×Wk),dZ b fs f t n=some q->q.2.aW.length+t.aQ.length=t.aW.length+q.2.aQ.length
 |0,_,_,_,e=>by cases e
 |f+1,t,n,q,e=>by
  rw[dZ] at e;split at e
  ·cases e;rfl
  ·cases a:fJ (dZ b fs f) (cT b fs n).1.aF (eG t (cT b fs n).1) with
   |none=>rw[a] at e;cases e
   |some i=>rw[a] at e;cases e;have d:=yD (yU b fs f) _ _ _ a;unfold eG at d;unfold iC;simp only[TE,UB,T6] at d⊢;omega
structure vj (L0 W3:ax)(wb bb nb:Nat)(fs:List aI)(b:Bk)(x:Nr)(v vN1 vO1:ay)(f:Nat)(p:Nat×Wk)(i er:Nat)(vN vO:ay)(xs:List ((Nr×Bool)×ay))(t:Wk)(wr:ax):Prop where
 m:eZ L0 wr wb bb fs b vN vO xs t er
 fr:jd W3 wr wb vN1 vO1 vN vO
 dt:aG wr nb 116 (dw x v)
 nd:e_ wr v x.aF/\qG wr v
 ne:some nb≠vN.ownBlock/\some nb≠vO.ownBlock/\nb≠wb
 go:er=0->fJ (dZ b fs f) (x.aF.drop i) t=some p
 st:er≠0->p=(er,t)
 dE:t.aW.length<=t.aQ.length
theorem Ir {L0:ax}{wb bb:Nat}{fs:List aI}{b:Bk}{x:Nr}{v:ay}{er:Nat}{vN vO vN' vO' :ay}{xs:List ((Nr×Bool)×ay)}{t:Wk}{wr:ax}(m:eZ L0 wr wb bb fs b vN vO xs t er)(f:aG wr i 116 (dw x v))(d:e_ wr v x.aF/\qG wr v)(ne:some i≠vN.ownBlock/\some i≠vO.ownBlock/\i≠wb)(a:jd wr n wb vN vO vN' vO'):
 aG n i 116 (dw x v)/\(e_ n v x.aF/\qG n v)/\(some i≠vN'.ownBlock/\some i≠vO'.ownBlock/\i≠wb):=by
 have j:=f.lt;have p:=a.bU.size;refine⟨(a.jo i j ne.2.2 ne.1 ne.2.1).trans f,d.1.kept d.2 (λq _ _ z=> ?_) p,λe=> ?_,λe=> ?_,ne.2.2⟩
 ·obtain⟨r,y,u,o⟩:=m.aY z;exact a.jo q r y u o
 ·rcases a.xY with e1|⟨q,e1,e2⟩
  ·exact ne.1 (e.trans e1)
  ·rw[e1] at e;cases e;omega
 ·rcases a.xW with e1|⟨q,e1,e2⟩
  ·exact ne.2.1 (e.trans e1)
  ·rw[e1] at e;cases e;omega
theorem vj.cF {L0:ax}{wb bb:Nat}{fs:List aI}{b:Bk}{x:Nr}{v:ay}{f:Nat}{d:Nat×Wk}{er:Nat}{vN vO:ay}{xs:List ((Nr×Bool)×ay)}{t:Wk}{wr:ax}(h:vj L0 n wb bb i fs b x v r ab f d E er vN vO xs t wr){i':Nat}{vN' vO' :ay}{o :List ((Nr×Bool)×ay)}{a :Wk}(D:eZ L0 O wb bb fs b vN' vO' o a N)(j:jd wr O wb vN vO vN' vO')(y:N =0->fJ (dZ b fs f) (x.aF.drop i') a =some d)(z:N ≠0->d=(N,a))(p:a.aW.length<=a.aQ.length):
 vj L0 n wb bb i fs b x v r ab f d i' N vN' vO' o a O:=by obtain⟨u,G,H⟩:=Ir h.m h.dt h.nd h.ne j;exact⟨D,h.fr.trans j,u,G,H,y,z,p⟩
structure IP (L0:ax)(b:Bk)(fs:List aI)(P M:Nat):Prop where
 size:mi b
 ru:∀r∈b.aD,r.tg≠[]/\(r.b_=true->(r.tg.headD []).contains 37=true)
 ff:fs.length<=16777216
 nm:∀name x,x∈(cT b fs name).1.aF->x.length<=P
 nl:∀name,(cT b fs name).1.aF.length<=130000
 p:P<=1073741000
 m:M<=1000000000
def AE (L0:ax)(wb bb:Nat)(fs:List aI)(b:Bk)(P M f:Nat):Prop:=∀(W:ax) (vN vO:ay) (xs:List ((Nr×Bool)×ay)) (t:Wk) (name:ag) (q:Nat×Wk),eZ L0 W wb bb fs b vN vO xs t 0->name.length<=P->dZ b fs f t name=some q->q.2.aQ.length<=M->t.aW.length<=t.aQ.length->
 Calls prog 53 #[.pointer (some ⟨wb,0,none⟩),.string ⟨name.toArray⟩] W λe W'=>SG L0 wb bb fs b vN vO q W e W'
theorem Ml {L0:ax}{wb bb:Nat}{fs:List aI}{b:Bk}{P M f:Nat}(J:IP L0 b fs P M)(ih:AE L0 wb bb fs b P M f):AE L0 wb bb fs b P M (f+1):=by
 intro W vN vO xs t name q hM bM E bp bV;have c0:=hM.row.cell 0 (by simp);simp only[TG] at c0;have a4:=hM.row.lt;have CN:=aB (O8 (hM.cV.aE hM.bU) J.size J.ru J.ff name (by have:=J.p;omega));have bG:=J.nl name;have a6:=aB (J.nm name);have bZ:=J.m;have bN:=aB (pV b fs (f+1) t name q E);rw[dZ] at E;have bq:=aB ih;have H:=aB hM;obtain⟨i0,hi,aY,ah,a'⟩:=UF Tryz.Ny;obtain⟨i1,hj,bg,aD,a0⟩:=UF Tryz.w_;have bD:=aB hi;have bE:=aB aY;have bF:=aB ah;have bt:=aB a';have aR:=aB hj;have aT:=aB bg;have a7:=aB aD;have bl:=aB a0;clear hM J ih hi aY ah a' hj bg aD a0;generalize bC:cT b fs name=nd at*;obtain⟨x,ok⟩:=nd;simp only at E bG a6;go_enter func53,ntmps53;unfold If at CN;rw[bC] at CN;cases ok with
 |false=>
  rw[TP rfl] at E;cases E;go_upto_region 1 with(first|(go_at_call 70;refine CN.u.mono ?_;rintro e w1 ⟨v,rfl,ab,ae⟩;obtain⟨r,o,rfl⟩:=dX ab;have V:=aB ae;clear ab ae;simp only[dw,gI,aK])|fail)
  have Q:=V.u.alloc V.u.size (.cells #[.string ⟨x.name.toArray⟩,.slice r x.aF.length o,.int .i64 (im x.gu),.string ⟨x.stem.toArray⟩,.bool x.ph,.bool false,.slice none 0 0] 116);have S:=H.u.aE Q;have HF:=aB (jd.bA (vN:=vN) (vO:=vO) Q (VA a4));obtain⟨r1,r2⟩:=S.cy 8;have f3:=S.row.frozen 3;have e3:=S.row.cell 3 (by simp);simp only[TG,TI] at e3;have ar:=aB r1;have aq:=aB r2;clear S r1 r2 Q;go_wp2_with fail
  refine Ua (U' rfl _ _ _) rfl ?_;exact⟨⟨_,rfl⟩,vN,vO,xs,ar.u,HF.u.trans aq.u⟩
 |true=>
  rw[TJ (by decide)] at E;cases hw:fJ (dZ b fs f) x.aF (eG t x) with
  |none=>rw[hw] at E;cases E
  |some D=>
   rw[hw] at E;cases E;have HW:=aB hw;have bY:t.aQ.length<D.2.aQ.length:=T7 (by unfold eG;simp) (oV (pV b fs f) _ _ _ hw).1;have bs:D.2.aQ.length<=M:=by
    have h1:(iC D.2 t.aQ.length).aQ.length=D.2.aQ.length:=by unfold iC;simp
    have S:(iC D.2 t.aQ.length).aQ.length<=M:=bp;omega
   have aU:xs.length=t.aQ.length:=by rw[<-H.u.nx,TR]
   have aj:=aB aU;have bR:xs.length<M:=by omega
   have bk:Hid (∀k,W.heap.size<=k->some k≠vN.ownBlock/\some k≠vO.ownBlock/\k≠wb):=aB (λk hk=>⟨λe=>by have:=(T3 H.u.aQ k e.symm).2;omega,λe=>by have:=(T3 H.u.aW k e.symm).2;omega,by omega⟩);clear aU;clear hw;go_upto_region 1 with(first|(go_at_call 70;refine CN.u.mono ?_;rintro e w1 ⟨v,rfl,ab,ae⟩;obtain⟨r,o,rfl⟩:=dX ab;have V:=aB ae;have aA:=aB ab;clear ab ae;simp only[dw,gI,aK])|fail)
   have Q:=V.u.alloc V.u.size (.cells #[.string ⟨x.name.toArray⟩,.slice r x.aF.length o,.int .i64 (im x.gu),.string ⟨x.stem.toArray⟩,.bool x.ph,.bool false,.slice none 0 0] 116);have be:=aB (aG.bA w1 116 (dw x (.slice r x.aF.length o)));have az:=aB (aA.u.sl.kept aA.u.Tm (λq _ _ h1=>((TF w1.heap.size w1).alloc ak (.cells #[.string ⟨x.name.toArray⟩,.slice r x.aF.length o,.int .i64 (im x.gu),.string ⟨x.stem.toArray⟩,.bool x.ph,.bool false,.slice none 0 0] 116)).block q (TN.1 h1).1) (by rw[TM];omega));have Z:=aB (H.u.aE Q);have HF:=aB (jd.bA (vN:=vN) (vO:=vO) Q (VA a4));have bv:=V.u.size;generalize bc:w1.alloc (.cells #[.string ⟨x.name.toArray⟩,.slice r x.aF.length o,.int .i64 (im x.gu),.string ⟨x.stem.toArray⟩,.bool x.ph,.bool false,.slice none 0 0] 116)=wA at*;have I:Hid (aG wA w1.heap.size 116 (dw x (.slice r x.aF.length o))):=aB (by rw[<-bc];exact be.u);generalize w1.heap.size=nb at*;clear be V aA Q bc c0 CN;obtain⟨an,cn,rfl⟩:=dX Z.u.aQ;have c1:=Z.u.row.cell 1 (by simp);have y0:=I.u.cell 0 (by simp[dw]);have y1:=I.u.cell 1 (by simp[dw]);have y2:=I.u.cell 2 (by simp[dw]);have y3:=I.u.cell 3 (by simp[dw]);have y4:=I.u.cell 4 (by simp[dw]);have y5:=I.u.cell 5 (by simp[dw]);have y6:=I.u.cell 6 (by simp[dw]);simp only[dw,gI,aK,TG,TI] at c1 y0 y1 y2 y3 y4 y5 y6;have aL:=aB Z.u.aQ;have b2:=Z.u.row.lt;go_upto_region 4 with fail
   go_cut [] from 9 (λwc=>∃v1,Hid (eZ L0 wc wb bb fs b v1 vO (xs++[((x,false),.slice r x.aF.length o)]) (eG t x) 0)/\Hid (jd wA wc wb (.slice an xs.length cn) vO v1 vO))
   case first=>
    go_region_law (refine qM rfl (.tmp 32) (.tmp 34) 40 rfl (wb+1) 116 i0 _ 7 96 underlying40 bD.u bE.u bF.u bt.u rfl (by decide) _ xs.length _ (by simp[Act.eval]) (aL.u.alloc _) ⟨_,0,none⟩ 1 1 (jM ((x,false),.slice r x.aF.length o)) (by simp[Act.eval]) rfl (gw _ _ (jM ((x,false),.slice r x.aF.length o))) (by intro u O;simp[jM] at O;rcases O with rfl|rfl|rfl|rfl|rfl|rfl|rfl<;>rfl) (by unfold maxLen;omega) (by omega) (by simp;omega) ?_;intro v1 w2 au a5 aO;obtain⟨g1,bO,rfl,bP,b1⟩:=d_ au (by omega);obtain⟨r1,r2,r3⟩:=Z.u.push az.u (oU a5) au (by rcases aO with e|e;exact .inl e;exact .inr ⟨_,e,by simp⟩);have ar:=aB r1;have aq:=aB r2;have e1:=r3.cell 1 (by simp);have f1:=r3.frozen 1;simp only[TG,TI] at e1;clear au a5 aO r1 r2 r3)
    all_goals go_wp2_with fail
    all_goals go_meet
    all_goals exact⟨_,ar,aq⟩
   case rest=>
    obtain⟨v1,bn,am⟩:=hcut;clear c1 y0 y1 y2 y3 y4 y5 y6 aL;have br:Hid (vj L0 wc wb bb nb fs b x (.slice r x.aF.length o) v1 vO f D 0 0 v1 vO (xs++[((x,false),.slice r x.aF.length o)]) (eG t x) wc):=aB (by obtain⟨k1,k2,k3⟩:=Ir Z.u I.u az.u (bk.u nb bv) am.u;exact⟨bn.u,jd.refl _ _ _ _,k1,k2,k3,λ_=>HW.u,λe=>absurd rfl e,by unfold eG;simp only[TE,T6];omega⟩);have aM:=aB (HF.u.trans am.u);clear az I Z HF am bn HW bk;go_wp2_with fail
    go_loopw [7] (λiv wr=>∃(i er:Nat) (vN' vO' :ay) (j :List ((Nr×Bool)×ay)) (n :Wk),iv= .int .i64 i/\i<=x.aF.length/\Hid (vj L0 wc wb bb nb fs b x (.slice r x.aF.length o) v1 vO f D i er vN' vO' j n wr)) (λiv _=>x.aF.length-aS iv)
    case atStart=>exact⟨0,0,v1,vO,_,_,rfl,TS _,br⟩
    case round=>
     obtain⟨i,er,vN',vO',j,n,rfl,hi,a⟩:=hrel;have y1:=a.u.dt.cell 1 (by simp[dw]);have c3:=a.u.m.row.cell 3 (by simp);simp only[dw,TG,TI] at y1 c3;by_cases hz:er=0/\i<x.aF.length
     ·obtain⟨ah,hk⟩:=hz;subst ah;have d:=a.u.go rfl;rw[T2 hk,fJ] at d;have bB:=a6.u _ (TV hk);obtain⟨a9,k9,b9,o9,bo,aJ,bj⟩:=a.u.nd.1;cases bo;obtain⟨rfl,-⟩:=aJ (by omega);have d0:=bj i hk;have b3:=(oV (pV b fs f) _ _ _ (a.u.go rfl)).1;have af :j.length=n.aQ.length:=by rw[<-a.u.m.nx,TR]
      have R:=aB (MQ a.u.m (by omega) x.aF[i]);have tk:(i:Int)<(x.aF.length:Int):=by omega
      unfold aK at d0;clear aJ bj;generalize x.aF[i]=y at*;cases hp:dj n.aQ y with
      |none=>
       rw[hp] at d R;simp only at d;cases hl:dZ b fs f n y with
       |none=>rw[hl] at d;cases d
       |some p1=>
        rw[hl] at d;simp only at d;have bh:p1.2.aQ.length<=M:=by
         by_cases z:p1.1=0
         ·rw[TJ (λe=>e z)] at d;have:=(oV (pV b fs f) _ _ _ d).1;omega
         ·rw[TP z] at d;have:=UX d;rw[this];exact bs
        have bW:=yU b fs f n y p1 hl;have bu:=a.u.dE;have CL:=aB (bq.u wr vN' vO' j n y p1 a.u.m bB hl bh bu);have aX:=aB d;clear d hl bh af;unfold gI im at R;go_wp2_with (first|(go_at_call 55;refine R.u.mono ?_;rintro e w5 ⟨rfl,rfl⟩)|(go_at_call 53;refine CL.u.mono ?_;rintro e w6 ⟨⟨ev,rfl⟩,bK,bX,bJ,bm,aZ⟩;have N:=aB (a.u.cF (i' :=i+1) bm aZ (λz=>(by have:=aX.u;rw[TJ (λe=>e z)] at this;exact this)) (λz=>(by have:=aX.u;rw[TP z] at this;exact(UX this).symm)) (by omega));clear bm aZ)|fail)
        first
         |exact⟨⟨i+1,p1.1,_,_,_,_,by go_num,by omega,N⟩,by simp only[aS];omega⟩
         |(go_roundw;exact⟨i+1,p1.1,_,_,_,_,by go_num,by omega,N⟩;simp only[aS];omega)
      |some k=>
       rw[hp] at d R;simp only at d;obtain⟨bx,-⟩:=uq hp;obtain⟨aN,cN,gN,aw,aH,a8⟩:=a.u.m.tf;subst aw;have G:k<j.length:=by omega
       obtain rfl:=aH (by omega);have c1:=a.u.m.row.cell 1 (by simp);simp only[TG,TI] at c1;have o5:=a8 k G 5 _ rfl;have bd:bS n k=j[k].1:=by unfold bS;rw[TO,<-a.u.m.nx,UG,TH G];rfl
       rw[bd] at d;have b0:¬(k:Int)<0:=by omega
       have bz:(k:Int)<(j.length:Int):=by omega
       unfold gI im at R;clear a8 aH bd af bx;cases a1:j[k].1.2 with
       |true=>
        rw[a1] at d o5;rw[TP rfl] at d;have N:=aB (a.u.cF (i' :=i+1) a.u.m (jd.refl _ _ _ _) (λ_=>d) (λe=>absurd rfl e) a.u.dE);clear d;go_wp2_with (first|(go_at_call 55;refine R.u.mono ?_;rintro e w5 ⟨rfl,rfl⟩)|fail)
        first
         |exact⟨⟨i+1,0,_,_,_,_,by go_num,by omega,N⟩,by simp only[aS];omega⟩
         |(go_roundw;exact⟨i+1,0,_,_,_,_,by go_num,by omega,N⟩;simp only[aS];omega)
       |false=>
        rw[a1] at d o5;rw[TJ (by decide)] at d;obtain⟨q1,q2⟩:=a.u.m.cy 7;have N:=aB (a.u.cF (i' :=i+1) q1 q2 (λe=>(by cases e)) (λ_=>(UX d).symm) a.u.dE);have f3:=a.u.m.row.frozen 3;clear d q1 q2;go_wp2_with (first|(go_at_call 55;refine R.u.mono ?_;rintro e w5 ⟨rfl,rfl⟩)|fail)
        first
         |exact⟨⟨i+1,7,_,_,_,_,by go_num,by omega,N⟩,by simp only[aS];omega⟩
         |(go_roundw;exact⟨i+1,7,_,_,_,_,by go_num,by omega,N⟩;simp only[aS];omega)
     ·have aC:Hid (D=(er,n)):=aB (by
       by_cases z:er=0
       ·have h1:=a.u.go z;rw[U_ (by omega)] at h1;have S:some (0,n)=some D:=h1;rw[z];exact(UX S).symm
       ·exact a.u.st z)
      have af :j.length=n.aQ.length:=by rw[<-a.u.m.nx,TR]
      have bQ:D.2.aQ.length=n.aQ.length:=by rw[aC.u]
      have G:xs.length<j.length:=by have:=aj.u;omega
      obtain⟨gN,cN,aw,-,-⟩:=d_ a.u.m.aQ (by omega);subst aw;obtain⟨o1,o2⟩:=a.u.m.cD G;have c1:=a.u.m.row.cell 1 (by simp);have bw:=o1.row.cell 2 (by simp);simp only[TG,TI] at c1 bw;have fz:=ua a.u.m.aQ (xs.length*7+5);have cl:=gx a.u.m.aQ (xs.length*7+5) _ ((Ah j xs.length 5 G (by decide)).trans rfl);obtain⟨ao,co,rfl⟩:=dX a.u.m.aW;have H4:=aB o1;have a_:=aB o2;have bI:=a.u.dE;have bT:=a.u.m.row.lt;have bz:(xs.length:Int)<(j.length:Int):=by omega
      have a2:=aB a.u.fr;have aV:=aB o1.aW;have bH:=o1.row.lt;clear o1 o2 a af;have t9:n.aW.length<=1000000000:=by omega
      have ba:Hid ((wr.setCell ⟨gN,xs.length*7+5,none⟩ (.bool true)).heap.size=wr.heap.size):=aB (by simp);by_cases hk:i<x.aF.length
      ·have z:¬er=0:=λe=>hz ⟨e,hk⟩;have te:((er:Int)==0)=false:=by rw[TQ];omega
       have tk:(i:Int)<(x.aF.length:Int):=by omega
       go_wp2_with (first|(at_builtin;go_loud (refine Uu _ rfl (.tmp 91) (.tmp 93) 41 rfl (wb+1) 3 i1 (.int .i64 0) 1 8 Wb aR.u aT.u a7.u bl.u rfl (by decide) _ n.aW.length _ rfl (T_ aV.u _) ⟨_,0,none⟩ 1 1 [.int .i64 (xs.length:Int)] rfl rfl (by have:=XU (wr.setCell ⟨gN,xs.length*7+5,none⟩ (.bool true)) (.int .i64 (xs.length:Int)) 3;rw[ba.u] at this;exact this) (by intro u O;simp at O;subst O;rfl) (by unfold maxLen;omega) (by omega) (by rw[TM];omega) ?_;intro v3 w5 aa ac al ad;obtain⟨s1,s2,s3⟩:=H4.u.dE (k:=xs.length) ((UK _ _ _).trans ac) aa (by rcases ad with e|e;exact .inl e;exact .inr ⟨_,e,by rw[TM];omega⟩);obtain⟨a3,k3,rfl⟩:=dX aa;have ai:=aB s1;have ap:=aB s2;have e2:=s3.cell 2 (by simp);have f2:=s3.frozen 2;simp only[TG,TI] at e2;clear aa ac al ad s1 s2 s3))|fail)
       go_end0
       refine⟨⟨_,rfl⟩,_,_,j.set xs.length (((j[xs.length]'G).1.1,true),(j[xs.length]'G).2),?_,((aM.u.trans a2.u).trans a_.u).trans ap.u⟩;rw[aC.u,<-aj.u];exact ai.u
      ·have tk:¬(i:Int)<(x.aF.length:Int):=by omega
       go_wp2_with (first|(at_builtin;go_loud (refine Uu _ rfl (.tmp 91) (.tmp 93) 41 rfl (wb+1) 3 i1 (.int .i64 0) 1 8 Wb aR.u aT.u a7.u bl.u rfl (by decide) _ n.aW.length _ rfl (T_ aV.u _) ⟨_,0,none⟩ 1 1 [.int .i64 (xs.length:Int)] rfl rfl (by have:=XU (wr.setCell ⟨gN,xs.length*7+5,none⟩ (.bool true)) (.int .i64 (xs.length:Int)) 3;rw[ba.u] at this;exact this) (by intro u O;simp at O;subst O;rfl) (by unfold maxLen;omega) (by omega) (by rw[TM];omega) ?_;intro v3 w5 aa ac al ad;obtain⟨s1,s2,s3⟩:=H4.u.dE (k:=xs.length) ((UK _ _ _).trans ac) aa (by rcases ad with e|e;exact .inl e;exact .inr ⟨_,e,by rw[TM];omega⟩);obtain⟨a3,k3,rfl⟩:=dX aa;have ai:=aB s1;have ap:=aB s2;have e2:=s3.cell 2 (by simp);have f2:=s3.frozen 2;simp only[TG,TI] at e2;clear aa ac al ad s1 s2 s3))|fail)
       go_end0
       refine⟨⟨_,rfl⟩,_,_,j.set xs.length (((j[xs.length]'G).1.1,true),(j[xs.length]'G).2),?_,((aM.u.trans a2.u).trans a_.u).trans ap.u⟩;rw[aC.u,<-aj.u];exact ai.u
theorem E0 {L0:ax}{wb bb:Nat}{fs:List aI}{b:Bk}{P M:Nat}(a:IP L0 b fs P M):∀f,AE L0 wb bb fs b P M f
 |0=>λ_ _ _ _ _ _ _ _ _ d=>by cases d
 |f+1=>Ml a (E0 a f)
theorem O0 {l:List ag}(h:l.Nodup)(n:ag):(cX l n).Nodup:=by
 unfold cX;split
 ·exact h
 ·rename_i q;have d:n∉l:=λe=>q (by unfold dO;exact Uz e);rw[Vc];exact⟨h,by simp,λa f b i=>by rw[TL.1 i];exact λe=>d (e▸f)⟩
theorem ML {l:List ag}{n x:ag}(h:x∈cX l n):x∈l\/x=n:=by
 unfold cX at h;split at h
 ·exact .inl h
 ·rcases T4.1 h with h|h
  ·exact .inl h
  ·exact .inr (TL.1 h)
theorem Aa:∀(d a:List ag),(a.Nodup->(d.foldl cX a).Nodup)/\∀x∈d.foldl cX a,x∈a\/x∈d
 |[],a=>⟨id,λx f=> .inl f⟩
 |n::d,a=>by
  obtain⟨i,j⟩:=Aa d (cX a n);refine⟨λh=>i (O0 h n),λx f=> ?_⟩;rcases j x f with h|h
  ·rcases ML h with h|h
   ·exact .inl h
   ·exact .inr (h▸TY ..)
  ·exact .inr (TX _ h)
theorem yv (name:ag):∀(rs:List Ru) (a:List ag),(a.Nodup->(rs.foldl (λa d=>if de name d=true then d.nd.foldl cX a else a) a).Nodup)/\∀x∈rs.foldl (λa d=>if de name d=true then d.nd.foldl cX a else a) a,x∈a\/x∈rs.flatMap (·.nd)
 |[],a=>⟨id,λx f=> .inl f⟩
 |d::rs,a=>by
  rw[Ux];by_cases m:de name d=true
  ·rw[TP m];obtain⟨j,i⟩:=yv name rs (d.nd.foldl cX a);obtain⟨o,n⟩:=Aa d.nd a;refine⟨λh=>j (o h),λx f=> ?_⟩;rw[Ud,T4];rcases i x f with h|h
   ·rcases n x h with h|h
    ·exact .inl h
    ·exact .inr (.inl h)
   ·exact .inr (.inr h)
  ·rw[TJ m];obtain⟨j,i⟩:=yv name rs a;refine⟨j,λx f=> ?_⟩;rw[Ud,T4];rcases i x f with h|h
   ·exact .inl h
   ·exact .inr (.inr h)
def ql (b:Bk)(fs:List aI):List ag:=b.aD.flatMap (·.nd)++(fs.map (·.aJ)++b.aD.flatMap (·.tg))
theorem Ev (b:Bk)(fs:List aI)(name:ag):(cT b fs name).1.aF.Nodup/\∀x∈(cT b fs name).1.aF,x∈ql b fs:=by
 have key:∀a:List ag,a.Nodup->(∀x∈a,x∈ql b fs)->(lA b name a).Nodup/\∀x∈lA b name a,x∈ql b fs:=λa G D=>by
  obtain⟨j,p⟩:=yv name b.aD a;refine⟨j G,λx i=> ?_⟩;rcases p x i with h|h
  ·exact D x h
  ·exact Ul _ h
 have r:=key [] VF λx i=>(by cases i);unfold cT;split
 ·cases u:jD b fs name with
  |none=>exact r
  |some y=>
   simp only;obtain⟨j,p⟩:=Aa ((b.aD.getD y cQ).nd.map λn=>cH n (fN ((b.aD.getD y cQ).tg.headD []) name)) [];refine key _ (j VF) λx i=> ?_;rcases p x i with h|h
   ·cases h
   ·obtain⟨n,J,rfl⟩:=Uc.1 h;unfold jD at u;have o:=(aag.1 u).1;unfold gn at o;simp only[U0] at o;have d:=Xo.1 o.2.2.2 n J;unfold jR at d;rw[aaO] at d;refine Un _ ?_;rcases d with d|d
    ·obtain⟨f,v⟩:=Option.isSome_iff_exists.1 d;have E:=Uw v;have H:=aaP v;refine Ul _ (Uc.2 ⟨f,E,?_⟩);simpa using H
    ·unfold jT at d;obtain⟨z,I,m⟩:=VD.1 d;unfold de dO at m;rw[U0] at m;exact Un _ (Wp.2 ⟨z,I,Xe m.1⟩)
 ·exact r
theorem yO {T:Nat}{b:Bk}{k:Nat}{fs:List aI}(h:ik T b k)(m:fP (fs.map (·.aJ))<=1048576)(name:ag):fP (cT b fs name).1.aF<=1304704:=by obtain⟨j,i⟩:=Ev b fs name;have f:=zz _ _ j i;unfold ql at f;rw[sC,sC] at f;have o:=um (λa:Ru=>a.nd) 2001 b.aD λa d=>(h.ru a d).2.2.2.2.2.2.2;have p:=um (λa:Ru=>a.tg) 2001 b.aD λa d=>(h.ru a d).2.2.2.2.2.2.1;have n:b.aD.length*2001<=64*2001:=U4 _ h.gG;omega
theorem MT {W:ax}{bb:Nat}{fs:List aI}{b:Bk}(Q:mh W bb fs b)(y:mi b)(S:∀d∈b.aD,d.tg≠[]):
 Calls prog 52 #[.pointer (some ⟨bb,0,none⟩)] W λe W'=>e= .returned (.string ⟨(pg b).toArray⟩)/\W' =W:=by
 have HV:=aB Q;have ao:=y.gG;have ad:=aB y.aD;have ac:=aB S;clear Q y S;go_enter func52,ntmps52;go_wp2_with fail
 go_loopw [3] (λv wr=>∃f:Nat,v= .int .i64 f/\f<=b.aD.length/\Hid (∀i,i<f->(λd=> !d.b_&& !d.ph) (b.aD.getD i cQ)=false)/\wr=W) (λv _=>b.aD.length-aS v)
 case atStart=>exact⟨0,rfl,TS _,λi hj=>(by omega),rfl⟩
 case round=>
  obtain⟨f,rfl,hi,m,hw⟩:=hrel;subst hw;have ai:=HV.u.lt;obtain⟨a,cap,rb,ro,c2,p,x⟩:=HV.u.aD;by_cases j:f<b.aD.length
  ·obtain⟨rfl,am⟩:=p (by omega);obtain⟨vt,vn,vs,vl,hR⟩:=x f j;have al:=ad.u _ (TV j);have D:=qe j;have M:Hid ((λd=> !d.b_&& !d.ph) b.aD[f]=true->pg b=b.aD[f].tg.headD []):=λh=>by unfold pg;rw[Ol m.u j h];rfl
   have O:=ac.u _ (TV j);have J:b.aD[f].tg.headD []=b.aD[f].tg[0]'(Uy.2 O):=Dp _;generalize b.aD[f]=d at*;obtain⟨a1,k1,a2,k2,a3,k3,a4,k4,rfl,rfl,rfl,rfl⟩:=hR.iN;obtain⟨d0,d1,d2,d3,Z,N,aa,ah,af,ab⟩:=hR;have t1:(f:Int)<(b.aD.length:Int):=by omega
   obtain⟨ak,aj,ap,an,ae,I,E⟩:=aa;have H:=Uy.2 O;obtain⟨rfl,-⟩:=I H;cases ae;have G:=E 0 H;rw[Ve] at G;unfold aK at G;rw[J] at M;have t2:(0:Int)<(d.tg.length:Int):=by omega
   clear I E J;have o:Hid (∀q,(λd=> !d.b_&& !d.ph) d=q->(λd=> !d.b_&& !d.ph) (b.aD.getD f cQ)=q):=λq hq=>by rw[D];exact hq
   clear D x p ah ab af;cases V:d.b_ with
   |true=>
    rw[V] at Z;have n:=aB ((show (λd=> !d.b_&& !d.ph) d=false by simp[*]));go_wp2_with fail
    first
     |exact⟨⟨f+1,by go_num,by omega,aB (gV (p:=λi=>(λd=> !d.b_&& !d.ph) (b.aD.getD i cQ)) m.u (o.u _ n.u)),by trivial⟩,by simp only[aS];omega⟩
     |(go_roundw;exact⟨f+1,by go_num,by omega,aB (gV (p:=λi=>(λd=> !d.b_&& !d.ph) (b.aD.getD i cQ)) m.u (o.u _ n.u)),by trivial⟩;simp only[aS];omega)
   |false=>
    rw[V] at Z;cases R:d.ph with
    |true=>
     rw[R] at N;have n:=aB ((show (λd=> !d.b_&& !d.ph) d=false by simp[*]));go_wp2_with fail
     first
      |exact⟨⟨f+1,by go_num,by omega,aB (gV (p:=λi=>(λd=> !d.b_&& !d.ph) (b.aD.getD i cQ)) m.u (o.u _ n.u)),by trivial⟩,by simp only[aS];omega⟩
      |(go_roundw;exact⟨f+1,by go_num,by omega,aB (gV (p:=λi=>(λd=> !d.b_&& !d.ph) (b.aD.getD i cQ)) m.u (o.u _ n.u)),by trivial⟩;simp only[aS];omega)
    |false=>
     rw[R] at N;have z:=aB (M.u ((show (λd=> !d.b_&& !d.ph) d=true by simp[*])));go_wp2_with fail
     go_ret;exact⟨by rw[z.u];rfl,rfl⟩
  ·have t1:¬(f:Int)<(b.aD.length:Int):=by omega
   have z:Hid (pg b=[]):=aB (by unfold pg;rw[NC m.u j];rfl);clear x p;go_wp2_with fail
   go_ret;exact⟨by rw[z.u];rfl,rfl⟩
def mf (t q:Wk):Prop:=t.aQ.length<=q.aQ.length/\∃a,q.aW=t.aW++a/\a.Nodup/\∀d∈a,t.aQ.length<=d/\d<q.aQ.length
theorem mf.refl (t:Wk):mf t t:=⟨TD _,[],by simp,VF,λd a=>(by cases a)⟩
theorem mf.trans {t u v:Wk}(h:mf t u)(k:mf u v):mf t v:=by
 obtain⟨E,p,n,r,i⟩:=h;obtain⟨D,x,z,m,f⟩:=k;refine⟨by omega,p++x,by rw[z,n,Ub],Vc.2 ⟨r,m,λa o c y e=> ?_⟩,λj d=> ?_⟩
 ·have:=i a o;have:=f c y;omega
 ·rcases T4.1 d with d|d
  ·have:=i j d;omega
  ·have:=f j d;omega
theorem yy {rec:Wk->ag->Option (Nat×Wk)}(h:∀t n q,rec t n=some q->mf t q.2):∀(l:List ag) (t:Wk) (q:Nat×Wk),fJ rec l t=some q->mf t q.2
 |[],t,q,e=>by cases e;exact mf.refl _
 |n::l,t,q,e=>by
  unfold fJ at e;cases d:dj t.aQ n with
  |none=>
   rw[d] at e;simp only at e;cases a:rec t n with
   |none=>rw[a] at e;cases e
   |some f=>
    rw[a] at e;simp only at e;split at e
    ·cases e;exact h t n _ a
    ·exact(h t n f a).trans (yy h l _ q e)
  |some f=>
   rw[d] at e;simp only at e;split at e
   ·exact yy h l _ q e
   ·cases e;exact mf.refl _
theorem Ez (b:Bk)(fs:List aI):∀(f:Nat) (t:Wk) (n:ag) (q:Nat×Wk),dZ b fs f t n=some q->mf t q.2
 |0,_,_,_,e=>by cases e
 |f+1,t,n,q,e=>by
  rw[dZ] at e;split at e
  ·cases e;exact mf.refl _
  ·cases m:fJ (dZ b fs f) (cT b fs n).1.aF (eG t (cT b fs n).1) with
   |none=>rw[m] at e;cases e
   |some i=>
    rw[m] at e;cases e;obtain⟨o,x,u,p,j⟩:=yy (Ez b fs f) _ _ _ m;have r:(eG t (cT b fs n).1).aQ.length=t.aQ.length+1:=by unfold eG;simp
    have D:(iC i.2 t.aQ.length).aQ.length=i.2.aQ.length:=by unfold iC;simp
    rw[r] at o j;show mf t (iC i.2 t.aQ.length);refine⟨by omega,x++[t.aQ.length],?_,Vc.2 ⟨p,by simp,λa v c z e=> ?_⟩,λy d=> ?_⟩
    ·show i.2.aW++[_]=_;rw[u,Ub];rfl
    ·have:=j a v;rw[TL.1 z] at e;omega
    ·rcases T4.1 d with d|d
     ·have:=j y d;omega
     ·rw[TL.1 d];omega
def tG (Q:Nr->Prop)(t:Wk):Prop:=∀y∈t.aQ,Q y.1
theorem zj {Q:Nr->Prop}{P:Nat}{rec:Wk->ag->Option (Nat×Wk)}(h:∀t n q,n.length<=P->rec t n=some q->tG Q t->tG Q q.2):∀(l:List ag) (t:Wk) (q:Nat×Wk),(∀n∈l,n.length<=P)->fJ rec l t=some q->tG Q t->tG Q q.2
 |[],t,q,_,e,a=>by cases e;exact a
 |n::l,t,q,i,e,a=>by
  have o:∀n∈l,n.length<=P:=λm r=>i m (TX _ r);unfold fJ at e;cases f:dj t.aQ n with
  |none=>
   rw[f] at e;simp only at e;cases d:rec t n with
   |none=>rw[d] at e;cases e
   |some j=>
    rw[d] at e;simp only at e;have p:=h t n j (i n (TY ..)) d a;split at e
    ·cases e;exact p
    ·exact zj h l _ q o e p
  |some j=>
   rw[f] at e;simp only at e;split at e
   ·exact zj h l _ q o e a
   ·cases e;exact a
theorem Gr {Q:Nr->Prop}{P:Nat}(b:Bk)(fs:List aI)(m:∀n,n.length<=P->Q (cT b fs n).1)(i:∀name x,x∈(cT b fs name).1.aF->x.length<=P):∀(f:Nat) (t:Wk) (n:ag) (q:Nat×Wk),n.length<=P->dZ b fs f t n=some q->tG Q t->tG Q q.2
 |0,_,_,_,_,e,_=>by cases e
 |f+1,t,n,q,u,e,o=>by
  rw[dZ] at e;split at e
  ·cases e;exact o
  ·cases d:fJ (dZ b fs f) (cT b fs n).1.aF (eG t (cT b fs n).1) with
   |none=>rw[d] at e;cases e
   |some r=>
    rw[d] at e;cases e;have p:=zj (Gr b fs m i f) _ _ _ (i n) d (λy a=>by
     rcases T4.1 a with a|a
     ·exact o y a
     ·rw[TL.1 a];exact m n u)
    intro y a;rcases VK a with h2|h2
    ·exact p y h2
    ·rw[h2];show Q (bS r.2 t.aQ.length).1;have j:t.aQ.length<r.2.aQ.length:=T7 (by unfold eG;simp) (oV (pV b fs f) _ _ _ d).1;unfold bS;rw[TO,TH j];exact p _ (TV j)
structure vk (b:Bk)(x:Nr):Prop where
 name:x.name.length<=1310000
 stem:x.stem.length<=1310000
 sum:fP x.aF<=1304704
 IX:∀i,x.gu =some i->i<b.aD.length
theorem qV:∀l:List ag,l.length<=fP l/\(l.headD []).length<=fP l/\∀x∈l,x.length<=fP l
 |[]=>⟨TD _,TD _,λx a=>(by cases a)⟩
 |y::f=>by
  obtain⟨i,-,d⟩:=qV f;rw[mB];refine⟨by rw[TK];omega,by show y.length<=_;omega,λx a=> ?_⟩;rcases Ue.1 a with rfl|a
  ·omega
  ·have:=d x a;omega
theorem NA {T:Nat}{b:Bk}{k:Nat}{fs:List aI}(h:ik T b k)(n:fP (fs.map (·.aJ))<=1048576)(name:ag)(r:name.length<=1304704):vk b (cT b fs name).1:=by
 have o:(cT b fs name).1.name=name:=by
  unfold cT;split
  ·cases jD b fs name<;>rfl
  ·rfl
 refine⟨by rw[o];omega,?_,yO h n name,λf a=> ?_⟩
 ·unfold cT;split
  ·cases jD b fs name with
   |none=>exact TS _
   |some f=>exact TT (ED _ _) (by omega)
  ·exact TS _
 ·have i:∀(j:Nat->Bool) (m:Nat),(List.range m).find? j=some f->f<m:=λj m e=>VE.1 (Uw e);unfold cT at a;split at a
  ·cases d:jD b fs name with
   |none=>rw[d] at a;cases a
   |some p=>rw[d] at a;cases a;exact i _ _ d
  ·exact i _ _ a
def r9 (U:List ag)(t:Wk):Prop:=(t.aQ.map (·.1.name)).Nodup/\∀y∈t.aQ,y.1.name∈U
theorem Dj (b:Bk)(fs:List aI)(name:ag):(cT b fs name).1.name=name:=by
 unfold cT;split
 ·cases jD b fs name<;>rfl
 ·rfl
theorem Pr {l:List (Nr×Bool)}{n:ag}(h:dj l n=none):n∉l.map (·.1.name):=λe=>by obtain⟨y,d,a⟩:=Uc.1 e;have:=UO.1 h y d;rw[a] at this;simp at this
theorem Ck (t:Wk)(k:Nat)(a:k<t.aQ.length):(iC t k).aQ.map (·.1.name)=t.aQ.map (·.1.name):=by
 unfold iC;have e:(bS t k).1=(t.aQ[k]).1:=by unfold bS;rw[TO,TH a];rfl
 rw[aaI,e];have:(t.aQ.map (·.1.name))[k]'(by simpa using a)=(t.aQ[k]).1.name:=Ut ..;show(t.aQ.map (·.1.name)).set k (t.aQ[k]).1.name=_;rw[<-this,YW]
theorem yS {U:List ag}{rec:Wk->ag->Option (Nat×Wk)}(h:∀t n q,n∈U->dj t.aQ n=none->rec t n=some q->r9 U t->r9 U q.2):∀(l:List ag) (t:Wk) (q:Nat×Wk),(∀n∈l,n∈U)->fJ rec l t=some q->r9 U t->r9 U q.2
 |[],t,q,_,e,a=>by cases e;exact a
 |n::l,t,q,i,e,a=>by
  have o:∀n∈l,n∈U:=λm r=>i m (TX _ r);unfold fJ at e;cases d:dj t.aQ n with
  |none=>
   rw[d] at e;simp only at e;cases f:rec t n with
   |none=>rw[f] at e;cases e
   |some j=>
    rw[f] at e;simp only at e;have p:=h t n j (i n (TY ..)) d f a;split at e
    ·cases e;exact p
    ·exact yS h l _ q o e p
  |some j=>
   rw[d] at e;simp only at e;split at e
   ·exact yS h l _ q o e a
   ·cases e;exact a
theorem E4 {U:List ag}(b:Bk)(fs:List aI)(r:∀x∈ql b fs,x∈U):∀(f:Nat) (t:Wk) (n:ag) (q:Nat×Wk),n∈U->dj t.aQ n=none->dZ b fs f t n=some q->r9 U t->r9 U q.2
 |0,_,_,_,_,_,e,_=>by cases e
 |f+1,t,n,q,I,v,e,m=>by
  rw[dZ] at e;split at e
  ·cases e;exact m
  ·cases i:fJ (dZ b fs f) (cT b fs n).1.aF (eG t (cT b fs n).1) with
   |none=>rw[i] at e;cases e
   |some u=>
    rw[i] at e;cases e;have E:r9 U (eG t (cT b fs n).1):=by
     refine⟨?_,λy d=> ?_⟩
     ·show((t.aQ++[((cT b fs n).1,false)]).map (·.1.name)).Nodup;rw[T',Vc];refine⟨m.1,by simp,λa j c D e=> ?_⟩;have G:c=n:=by
       have:c=(cT b fs n).1.name:=by simpa using D
       rw[this,Dj]
      exact Pr v (G▸e▸j)
     ·rcases T4.1 d with d|d
      ·exact m.2 y d
      ·rw[TL.1 d];show(cT b fs n).1.name∈U;rw[Dj];exact I
    have j:=yS (E4 b fs r f) _ _ _ (λx H=>r x ((Ev b fs n).2 x H)) i E;have o:t.aQ.length<u.2.aQ.length:=T7 (by unfold eG;simp) (oV (pV b fs f) _ _ _ i).1;refine⟨by rw[Ck _ _ o];exact j.1,λy d=> ?_⟩;have p:y.1.name∈(iC u.2 t.aQ.length).aQ.map (·.1.name):=Uc.2 ⟨y,d,rfl⟩;rw[Ck _ _ o] at p;obtain⟨z,M,J⟩:=Uc.1 p;rw[<-J];exact j.2 z M
structure rK (b:Bk)(fs:List aI)(t:Wk):Prop where
 nd:(t.aQ.map (·.1.name)).Nodup
 len:t.aQ.length<=1310000
 dE:t.aW.Nodup
 ol:t.aW.length=t.aQ.length
 lt:∀i∈t.aW,i<t.aQ.length
 sz:∀y∈t.aQ,vk b y.1
theorem look_size {T k f:Nat}{b:Bk}{fs:List aI}{g:ag}{q:Nat×Wk}(h:ik T b k)(u:fP (fs.map (·.aJ))<=1048576)(O:g.length<=2000)(j:dZ b fs f jg g=some q):rK b fs q.2:=by
 have M:∀name x,x∈(cT b fs name).1.aF->x.length<=1304704:=λname x i=>TT ((qV _).2.2 x i) (yO h u name);have m:=E4 (U:=g::ql b fs) b fs (λx i=>TX _ i) f jg g q (TY ..) rfl j ⟨VF,λy d=>(by cases d)⟩;have v:=Gr (Q:=vk b) (P:=1304704) b fs (λn I=>NA h u n I) M f jg g q (by omega) j (λy d=>(by cases d));obtain⟨-,z,J,E,G⟩:=Ez b fs f jg g q j;have r:q.2.aW=z:=by rw[J];rfl
 refine⟨m.1,?_,by rw[r];exact E,by have:=yU b fs f jg g q j;have V:jg.aQ.length=0:=rfl;have h9:jg.aW.length=0:=rfl;omega,λN H=>(G N (r▸H)).2,v⟩;have p:=zz _ (g::ql b fs) m.1 (λx i=>by obtain⟨y,d,rfl⟩:=Uc.1 i;exact m.2 y d);have D:=(qV (q.2.aQ.map (·.1.name))).1;rw[TR] at D;rw[mB] at p;unfold ql at p;rw[sC,sC] at p;have R:=um (λa:Ru=>a.nd) 2001 b.aD λa o=>(h.ru a o).2.2.2.2.2.2.2;have Z:=um (λa:Ru=>a.tg) 2001 b.aD λa o=>(h.ru a o).2.2.2.2.2.2.1;have S:b.aD.length*2001<=64*2001:=U4 _ h.gG;omega
theorem OJ {b:Bk}{x:Nr}(h:vk b x):xy (sd (eC b x)):=by
 have d:=qV x.aF;have a:=h.sum;refine⟨h.name,?_,?_,h.stem⟩
 ·show(x.aF.headD []).length<=_;omega
 ·show([32].intercalate x.aF).length<=_;have:=D3 x.aF;omega
theorem Kd (H goal p0:ag)(er ln:Nat)(a ao ae:Option Addr)(n cap no co m ce:Nat)(aP:Int)(w:ax)(G:ax->Nat->Prop)(Hx:Prop)(h0:er≠0)(s1 s2:az)(u1:s1.toList=[99,99,32,45,111,32,97,46,111,32,97,46,99])(u2:s2.toList=[109,107,32,98])(r:Hid (∀W,Calls prog 13 #[] W λe w'=>e= .returned (.slice (some ⟨W.heap.size,0,none⟩) 3 3)/\dA w' W.heap.size 0 dI/\W.heap.size<w'.heap.size/\Below W.heap.size W w'))(K2:Hid (∀W b,dA W b 0 dI->b<W.heap.size->Calls prog 12 #[.slice (some ⟨b,0,none⟩) 3 3] W λe w'=>e= .returned (.slice (some ⟨W.heap.size,0,none⟩) 3 11)/\dA w' W.heap.size 0 dI/\W.heap.size<w'.heap.size/\Below W.heap.size W w'))(K3:Hid (∀W b,Below w.heap.size w W->dA W b 0 dI->b<W.heap.size->Calls prog 11 #[.slice (some ⟨b,0,none⟩) 3 11,.string ⟨#[82]⟩,.string ⟨#[]⟩] W λe w'=>e= .returned (.tuple #[.string ⟨p0.toArray⟩,.int .i64 0,.int .i64 0])/\Below W.heap.size W w'))(K4:Hid (∀W b,dA W b 0 dI->b<W.heap.size->Calls prog 14 #[.string ⟨p0.toArray⟩,.slice (some ⟨b,0,none⟩) 3 3,.slice none 0 0,.int .i64 10] W λe w'=>∃Q d E n2 x I R,e= .returned (.tuple #[.agg #[.slice (some ⟨d,0,none⟩) 2 Q,.slice E n2 x,.int .i64 I,.int .i64 R],.int .i64 0])/\w'.cell? ⟨d,0,none⟩=some (.string s1)/\w'.cell? ⟨d,1,none⟩=some (.string s2)/\d<w'.heap.size/\Below W.heap.size W w'))(GL:Hid (∀W b X,G W b->Below W.heap.size W X->G X b))(C1:Hid (∀W,Below w.heap.size w W->Calls prog 12 #[.slice a n cap] W λe w'=>∃hb,e= .returned (.slice (some ⟨hb,0,none⟩) n (n+8))/\G w' hb/\Below W.heap.size W w'))(C2:Hid (∀W b,Below w.heap.size w W->G W b->Calls prog 11 #[.slice (some ⟨b,0,none⟩) n (n+8),.string ⟨H.toArray⟩,.string ⟨goal.toArray⟩] W λe w'=>e= .returned (.tuple #[.string ⟨#[]⟩,.int .i64 (er:Int),.int .i64 (ln:Int)])/\Hx/\Below W.heap.size W w'))(C3:Hid (∀W,Hx->Below w.heap.size w W->Calls prog 15 #[.slice a n cap,.string ⟨H.toArray⟩,.string ⟨goal.toArray⟩] W λe w'=>∃wb,e= .returned (.pointer (some ⟨wb,0,none⟩))/\Below W.heap.size W w' /\wb<w'.heap.size/\w'.cell? ⟨wb,3,none⟩=some (.int .i64 (er:Int))/\w'.cell? ⟨wb,4,none⟩=some (.int .i64 (ln:Int))))(C4:Hid (∀W b,Below w.heap.size w W->G W b->Calls prog 16 #[.slice (some ⟨b,0,none⟩) n (n+8),.slice a n cap] W λe w'=>e= .returned (.bool true)/\Below W.heap.size W w')):
 Calls prog 3 #[.slice a n cap,.string ⟨H.toArray⟩,.string ⟨goal.toArray⟩,.slice ao no co,.slice ae m ce,.int .i64 aP] w λe w'=>e= .returned (.bool true)/\Below w.heap.size w w' :=by
 have ak :=aB r.u;have C0:=aB (λz W=>FO z W);have t0:((er:Int) !=0)=true:=by rw[UY];omega
 have t1:((er:Int) !=(er:Int))=false:=by simp
 have t2:((ln:Int) !=(ln:Int))=false:=by simp
 clear h0;go_enter func3,ntmps3;go_upto_region 9 with(first|(go_at_call 13;refine(r.u _).mono ?_;rintro e w1 ⟨rfl,aq,aw,aN⟩;have ap:=aB aN;have aG:=aB aq;have aK:=aB aw;clear aN aq aw r)|(go_at_call 12;refine(K2.u _ _ aG.u aK.u).mono ?_;rintro e w2 ⟨rfl,aa,ah,aH⟩;have V:=aB (ap.u.tr aH);have aE:=aB aa;have ad:=aB ah;clear aH aa ah K2 ap aG aK)|(go_at_call 11;refine(K3.u _ _ V.u aE.u ad.u).mono ?_;rintro e w3 ⟨rfl,aO⟩;have af:=aB (V.u.tr aO);clear aO K3 V aE ad)|(go_at_call 13;refine(ak.u _).mono ?_;rintro e w4 ⟨rfl,aD,al,aM⟩;have av:=aB (af.u.tr aM);have ar:=aB aD;have aA:=aB al;clear aM aD al ak af)|(go_at_call 14;refine(K4.u _ _ ar.u aA.u).mono ?_;rintro e O ⟨Q,d,E,n2,x,I,R,rfl,p1,p2,M,aF⟩;have f:Below O.heap.size O (O.alloc (.cells #[.slice (some ⟨d,0,none⟩) 2 Q,.slice E n2 x,.int .i64 I,.int .i64 R] 32)):=aj _ _;have p3:=(f.cell (p:=⟨d,0,none⟩) M).trans p1;have p4:=(f.cell (p:=⟨d,1,none⟩) M).trans p2;have aL:=av.u.tr aF;have N:=aB (aL.tr f);clear aF f M aL p1 p2 K4 av ar aA)|(go_at_call 12;refine(C1.u _ N.u).mono ?_;rintro e w6 ⟨aR,rfl,an,ai⟩;have J:=aB (N.u.tr ai);have j:=aB an;clear ai an C1 N)|(go_at_call 11;refine(C2.u _ _ J.u j.u).mono ?_;rintro e w7 ⟨rfl,au,Z⟩;have am:=aB au;have y:=aB (J.u.tr Z);have ac:=aB (GL.u _ _ _ j.u Z);clear Z au C2 J j)|(go_at_call 15;refine(C3.u _ am.u y.u).mono ?_;rintro e w8 ⟨wb,rfl,D,ab,v,S⟩;have o:=aB (y.u.tr D);have aC:=aB (GL.u _ _ _ ac.u D);have Q3:=aB v;have Q4:=aB S;clear D v S C3 y ac am)|(go_at_call 16;refine(C4.u _ _ o.u aC.u).mono ?_;rintro e w9 ⟨rfl,i⟩;have aQ:=aB (o.u.tr i);have v:=(i.cell (p:=⟨wb,3,none⟩) ab).trans Q3.u;have S:=(i.cell (p:=⟨wb,4,none⟩) ab).trans Q4.u;clear i C4 o aC Q3 Q4)|fail)
 go_quiet (first|(go_at_call 17;exact V_ (C0.u _ _)))
 go_wp2_with fail
 go_ret;exact⟨rfl,Below.drewN aQ.u _⟩
