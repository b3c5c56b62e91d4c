/- . -/
import Derived.Test.YtjelacjggijmfaaGreatDoorYGE7
set_option maxHeartbeats 4000000
set_option maxRecDepth 100000
namespace Go.Proofs.YtjelacjggijmfaaGreatDoor
open Pl Mk Cp Proofs.Tryz
open RowKit MapKept ChangeMaps Maps
structure Vq where
 nd:cA
 lk:Nat
 vn:ay
 vc:ay
def lj (q:Vq):List ay:=[aK q.nd.name,.bool q.nd.ph,q.vn,q.vc,aK q.nd.stem]
def mu (q:Vq):List ay:=[aK q.nd.name,.bool q.nd.ph,q.vn,q.vc,aK q.nd.stem,.int .i64 (q.lk:Int)]
def kA (W:ax)(q:Vq):Prop:=fF W q.vn q.nd.aF/\nS W q.vc q.nd.aH
structure eM (W:ax)(L wk st:Nat)(c:Ad)(rb:Nat->Nat)(s:St)(vp:ay)(l:df)(bf bi:Nat)(ve:ay)(ef:List bL)(fs:List aI)(aP:Int)(us:List (Nat×List ag))(v2 vo vv:ay)(bF:dM)(qo qv:List Vq):Prop where
 eE:mV W wk c rb s vp l bf bi ve ef fs aP v2 (.map (some st)) vo vv
 b_:kz W rb v2 us
 mp:bC W st (gY bF)
 opn:W.ownsRow L 313 6 vo qo.length (qo.flatMap mu)
 mX:∀q∈qo,kA W q
 iI:W.ownsRow L 197 5 vv qv.length (qv.flatMap lj)
 oS:∀q∈qv,kA W q
 lw:L<=wk
 ls:L<=st
 lW:L<=W.heap.size
 bU:c.nm<L/\c.bt<L/\c.pb<L/\c.bx<L/\bf<L/\bi<L/\0<L
variable {g:Array ay}{i:Nat×Nat}{a f:ay}{d:dM}
section
variable {W X Y:ax} {L wk st:Nat} {c:Ad} {rb:Nat->Nat} {s:St} {vp:ay} {l:df} {bf bi:Nat} {ve:ay} {ef:List bL} {fs:List aI} {aP:Int} {us:List (Nat×List ag)} {v2 vo vv:ay} {bF:dM} {qo qv:List Vq}
theorem kA.bl {q:Vq}(h:kA W q)(a:Bl W X):kA X q:=⟨h.1.bl a,h.2.bl a⟩
def jI (wk st:Nat)(vo vv:ay)(k:Nat):Prop:=k=wk\/k=st\/some k=vo.ownBlock\/some k=vv.ownBlock
theorem eM.type (h:eM W L wk st c rb s vp l bf bi ve ef fs aP us v2 vo vv bF qo qv){k:Nat}(a:jI wk st vo vv k){e:TypeId}(b:W.heap[k]?=some (Obj.cells g e i)):e=193\/e=313\/e=197:=by
 rcases a with a|a|a|a
 ·have:=h.eE.row;unfold aG at this;rw[a,this] at b;cases b;exact .inl rfl
 ·obtain⟨n,m,d,-⟩:=h.mp;rw[a,d] at b;cases b
 ·obtain⟨f,j,d⟩:=eN h.opn k a.symm;rw[d] at b;cases b;exact .inr (.inl rfl)
 ·obtain⟨f,j,d⟩:=eN h.iI k a.symm;rw[d] at b;cases b;exact .inr (.inr rfl)
theorem eM.xN (h:eM W L wk st c rb s vp l bf bi ve ef fs aP us v2 vo vv bF qo qv){k:Nat}(a:jI wk st vo vv k):L<=k:=by
 rcases a with a|a|a|a
 ·rw[a];exact h.lw
 ·rw[a];exact h.ls
 ·exact(h.opn.lt k a.symm).1
 ·exact(h.iI.lt k a.symm).1
theorem eM.same (h:eM W L wk st c rb s vp l bf bi ve ef fs aP us v2 vo vv bF qo qv)(j:Tn (jI wk st vo vv) W X){k:Nat}{e:TypeId}(a:W.heap[k]?=some (Obj.cells g e i))(d:e≠193)(b:e≠313)(f:e≠197):X.heap[k]?=W.heap[k]?:=j.block k (TN.1 a).1 (λq=>by rcases h.type q a with e|e|e;exact d e;exact b e;exact f e)
theorem eM.bl (h:eM W L wk st c rb s vp l bf bi ve ef fs aP us v2 vo vv bF qo qv)(b:Tn (jI wk st vo vv) W X):Bl W X:=⟨λ_ _ _ a=>h.same b a (by decide) (by decide) (by decide),λ_ _ _ a=>h.same b a (by decide) (by decide) (by decide),λ_ _ _ a=>h.same b a (by decide) (by decide) (by decide),λ_ _ _ a=>h.same b a (by decide) (by decide) (by decide),λ_ _ _ a=>h.same b a (by decide) (by decide) (by decide)⟩
theorem eM.aL (h:eM W L wk st c rb s vp l bf bi ve ef fs aP us v2 vo vv bF qo qv)(a:Tn (jI wk st vo vv) W X):Below L W X:=a.aL h.lW (λ_ e=>h.xN e)
theorem eM.next (h:eM W L wk st c rb s vp l bf bi ve ef fs aP us v2 vo vv bF qo qv)(g:Tn (jI wk st vo vv) W X){k j :List Vq}(row:aG X wk 193 [.pointer (some ⟨c.bb,0,none⟩),.pointer (some ⟨c.bx,0,none⟩),v2,.map (some st),a,f])(mp:bC X st (gY d))(G:X.ownsRow L 313 6 a k.length (k.flatMap mu))(E:∀q∈k,kA X q)(r:X.ownsRow L 197 5 f j.length (j.flatMap lj))(y:∀q∈j,kA X q):
 eM X L wk st c rb s vp l bf bi ve ef fs aP us v2 a f d k j :=by
 have i:=h.aL g;have n:=h.bl g;obtain⟨D,C,A,J,K,M,v⟩:=h.bU;refine⟨⟨row,h.eE.bm.bl n (i.block _ D) (i.block _ C) (i.block _ A),h.eE.pw.tn g (λe=>by have:=h.xN e;omega) (λe=>by have:=h.xN e;omega) (λe=>by have:=h.xN e;omega),?_⟩,?_,mp,G,E,r,y,h.lw,h.ls,TT h.lW g.size,h.bU⟩
 ·obtain⟨m,H⟩:=h.eE.fh;exact⟨m,(i.cell (p:=⟨0,0,none⟩) v).trans H⟩
 ·rcases h.b_ with q|⟨b,o,cp,q1,⟨cs,fz,q2⟩,q3⟩
  ·exact .inl q
  ·have e:=h.same g q2 (by decide) (by decide) (by decide);refine .inr ⟨b,o,cp,q1,⟨cs,fz,e.trans q2⟩,λI x w=> ?_⟩;obtain⟨z,u,B,F⟩:=q3 I x w;refine⟨?_,u,?_,F.bl n⟩
   ·unfold World.cell? at*;rw[e];exact z
   ·unfold World.cell? at*;rw[e];exact B
theorem eM.aE (h:eM W L wk st c rb s vp l bf bi ve ef fs aP us v2 vo vv bF qo qv)(a:Below W.heap.size W X):eM X L wk st c rb s vp l bf bi ve ef fs aP us v2 vo vv bF qo qv:=h.next (Tn.aE a) (h.eE.row.aE a) (h.mp.aE a) (bT h.opn (λk b=>a.block k (h.opn.lt k b).2)) (λq d=>(h.mX q d).bl (Bl.aL a)) (bT h.iI (λk b=>a.block k (h.iI.lt k b).2)) (λq d=>(h.oS q d).bl (Bl.aL a))
theorem eM.IF (h:eM W L wk st c rb s vp l bf bi ve ef fs aP us v2 vo vv bF qo qv)(i:W.mapTurned X st)(o:bC X st (gY d)):eM X L wk st c rb s vp l bf bi ve ef fs aP us v2 vo vv d qo qv/\Tn (jI wk st vo vv) W X:=by have g:Tn (jI wk st vo vv) W X:=lx i (.inr (.inl rfl));have j:∀(k:Nat) (m:Array ay) (e:TypeId) (b:Nat×Nat),W.heap[k]?=some (Obj.cells m e b)->X.heap[k]?=W.heap[k]?:=λk m e b a=>(lx (p:=λk=>k=st) i rfl).block k (TN.1 a).1 (λq=>by obtain⟨v,x,w,y,u,-⟩:=i;rw[q,u] at a;cases a);have n:=h.bl g;exact⟨h.next g ((j _ _ _ _ h.eE.row).trans h.eE.row) o (bT h.opn (λk a=>by obtain⟨r,b,q⟩:=eN h.opn k a;exact j k _ _ _ q)) (λq f=>(h.mX q f).bl n) (bT h.iI (λk a=>by obtain⟨r,b,q⟩:=eN h.iI k a;exact j k _ _ _ q)) (λq f=>(h.oS q f).bl n),g⟩
theorem eM.Rf (h:eM W L wk st c rb s vp l bf bi ve ef fs aP us v2 vo vv bF qo qv){q:Vq}(v:kA W q)(n:X.ownsRow L 313 6 a (qo.length+1) (qo.flatMap mu++mu q))(d:W.grownBy X vo.ownBlock):
 aG X wk 193 [.pointer (some ⟨c.bb,0,none⟩),.pointer (some ⟨c.bx,0,none⟩),v2,.map (some st),vo,vv]/\eM (X.setCell ⟨wk,4,none⟩ a) L wk st c rb s vp l bf bi ve ef fs aP us v2 a vv bF (qo++[q]) qv/\Tn (jI wk st vo vv) W (X.setCell ⟨wk,4,none⟩ a):=by
 have B:Tn (jI wk st vo vv) W X:=Tn.grown d (λk e=> .inr (.inr (.inl e.symm)));have m:Tn (jI wk st vo vv) W (X.setCell ⟨wk,4,none⟩ a):=B.trans (Tn.set X ⟨wk,4,none⟩ a (.inl rfl));have g:=h.eE.row.grown d (kE h.eE.row h.opn (by decide));have j:=h.bl m;have o:some wk≠a.ownBlock:=kE g n (by decide);have A:some wk≠vv.ownBlock:=kE h.eE.row h.iI (by decide);have p:wk≠st:=mA h.eE.row h.mp;have z:vv.ownBlock=none\/vv.ownBlock≠vo.ownBlock:=by
  cases e:vv.ownBlock with
  |none=>exact .inl rfl
  |some k=>refine .inr (λq=> ?_);obtain⟨F,C,y⟩:=eN h.iI k e;obtain⟨u,x,b⟩:=eN h.opn k q.symm;rw[y] at b;cases b
 have w:bC X st (gY bF):=h.mp.kept d (λe=>by obtain⟨u,x,b⟩:=eN h.opn st e.symm;obtain⟨E,D,r,-⟩:=h.mp;rw[r] at b;cases b);refine⟨g,h.next m (g.set 4 a) (w.setCell (aa9 p) a) ?_ ?_ (dQ (h.iI.kept d z) A 4 a) (λi f=>(h.oS i f).bl j),m⟩
 ·have:=dQ n o 4 a;rw[TE,US];simpa using this
 ·intro i f;rcases T4.1 f with e|e
  ·exact(h.mX i e).bl j
  ·rw[TL] at e;subst e;exact v.bl j
end
theorem Tryz.PL:(Tryz.prog.info? 313).map (λa=>(a.zero,a.size,a.bytes))=some (some (.agg #[.string ⟨#[]⟩,.bool false,.slice none 0 0,.slice none 0 0,.string ⟨#[]⟩,.int .i64 0]),6,96):=by kernel_rfl
theorem wg (w:ax):(zeroValue 309).run prog w= .ok (.int .i64 0) w:=by kernel_rfl
structure cE where
 bF:dM
 opn:List (cA×Nat)
 cD:List cA
def dB (s:St)(fs:List aI)(us:List (Nat×List ag))(t:cE)(name:ag):Nat×cE:=
 if bG t.bF name=2 then(0,t) else if bG t.bF name=1 then(7,t)
 else if(ea s fs us name).2=false then(8,t) else(0,{t with bF:=cL t.bF name 1,opn:=t.opn++[((ea s fs us name).1,0)]})
def lM (W:ax)(L wk st:Nat)(c:Ad)(rb:Nat->Nat)(s:St)(vp:ay)(l:df)(bf bi:Nat)(ve:ay)(ef:List bL)(fs:List aI)(aP:Int)(us:List (Nat×List ag))(v2:ay)(t:cE):Prop:=∃vo vv qo qv,eM W L wk st c rb s vp l bf bi ve ef fs aP us v2 vo vv t.bF qo qv/\(qo.map λq=>(q.nd,q.lk))=t.opn/\qv.map Vq.nd=t.cD
theorem On (q:Vq)(d:q.vn.oneCell' =true)(b:q.vc.oneCell' =true):∀u∈mu q,u.oneCell' =true:=by
 intro u a;unfold mu at a;simp only[Ue,Vl,Xm] at a;rcases a with e|e|e|e|e|e
 ·subst e;rfl
 ·subst e;rfl
 ·subst e;exact d
 ·subst e;exact b
 ·subst e;rfl
 ·subst e;rfl
section
variable {W X Y:ax} {L wk st:Nat} {c:Ad} {rb:Nat->Nat} {s:St} {vp:ay} {l:df} {bf bi:Nat} {ve:ay} {ef:List bL} {fs:List aI} {aP:Int} {us:List (Nat×List ag)} {v2:ay} {t:cE}
theorem Ea (name:ag)(k:Nat)(h:lM W L wk st c rb s vp l bf bi ve ef fs aP us v2 t)(hx:∀x∈us,x.1<s.aD.length/\(bK s x.1).tg≠[]/\(∀y∈(bK s x.1).tg,y.length<=2000)/\x.2.length<=2000/\∀n∈x.2,n.length<=2000)(hn:us.length<=1073741824)(aj:Ok s k)(ai:name.length<=1073741824)(aR:t.bF.length<=4294967296)(aO:t.opn.length<=4294967296):
 Calls prog 142 #[.pointer (some ⟨wk,0,none⟩),.string ⟨name.toArray⟩] W λe W'=>e= .returned (.int .i64 ((dB s fs us t name).1:Int))/\lM W' L wk st c rb s vp l bf bi ve ef fs aP us v2 (dB s fs us t name).2/\Below L W W' :=by
 obtain⟨i0,aq,ah,ar,aC⟩:=UF Tryz.PL;obtain⟨vo,vv,qo,qv,f,o,E⟩:=h;have c3:=f.eE.row.cell? (i:=3) rfl;have aS:=f.eE.row.lt;have M:=aB f.mp;have J:=aB (zM name t.bF);have HM:=aB f;have F:dB s fs us t name=if bG t.bF name=2 then(0,t) else if bG t.bF name=1 then(7,t) else if(ea s fs us name).2=false then(8,t) else(0,{t with bF:=cL t.bF name 1,opn:=t.opn++[((ea s fs us name).1,0)]}):=rfl
 have P:Hid (∀w,Below W.heap.size W w->lM w L wk st c rb s vp l bf bi ve ef fs aP us v2 t/\Below L W w):=λw Z=>⟨⟨vo,vv,qo,qv,f.aE Z,o,E⟩,Z.mono f.lW⟩;by_cases D:bG t.bF name=2
 ·rw[F,TP D];have w2:((bG t.bF name:Int)==2)=true:=by rw[UR];omega
  have m:=aB (P.u W (TF _ _));clear f o E F D;go_enter aaG,aaf;go_wp2_with (first|(at_lookup;refine mz _ rfl _ _ 189 rfl 9 309 WY T0 (.int .i64 0) (wg _) st (gY t.bF) rfl M.u name rfl _ J.u ?_)|fail)
  go_ret;exact⟨rfl,m.u.1,m.u.2⟩
 ·have w2:((bG t.bF name:Int)==2)=false:=by rw[TQ];omega
  by_cases O:bG t.bF name=1
  ·rw[F,TJ D,TP O];have r:((bG t.bF name:Int)==1)=true:=by rw[UR];omega
   have m:=aB (P.u W (TF _ _));clear f o E F D O;go_enter aaG,aaf;go_wp2_with (first|(at_lookup;refine mz _ rfl _ _ 189 rfl 9 309 WY T0 (.int .i64 0) (wg _) st (gY t.bF) rfl M.u name rfl _ J.u ?_)|fail)
   go_ret;exact⟨rfl,m.u.1,m.u.2⟩
  ·have r:((bG t.bF name:Int)==1)=false:=by rw[TQ];omega
   rw[F,TJ D,TJ O];have H:=aB (NO us name k f.eE f.b_ hx hn aj ai);have aN:qo.length<=4294967296:=by
    have:qo.length=t.opn.length:=by rw[<-o,TR]
    omega
   clear F D O;generalize aM:ea s fs us name=nf at*;obtain⟨a,ok⟩:=nf;simp only at H⊢;cases ok with
   |false=>
    rw[TP rfl];clear f o E;go_enter aaG,aaf;go_wp2_with (first|(at_lookup;refine mz _ rfl _ _ 189 rfl 9 309 WY T0 (.int .i64 0) (wg _) st (gY t.bF) rfl M.u name rfl _ J.u ?_)|(go_at_call 189;refine H.u.mono ?_;clear H;rintro e r ⟨vn,vc,rfl,B,z,v⟩;obtain⟨b,d,rfl⟩:=B.sh;obtain⟨am,g,rfl⟩:=z.sh;unfold aK;have m:=aB (P.u _ (v.alloc v.size (.cells #[.string ⟨a.name.toArray⟩,.bool a.ph,.slice b a.aF.length d,.slice am a.aH.length g,.string ⟨a.stem.toArray⟩] 197)));clear B z v)|fail)
    go_ret;exact⟨rfl,m.u.1,m.u.2⟩
   |true=>
    rw[TJ (by simp)];have HO:=aB o;have HV:=aB E;clear f o E;go_enter aaG,aaf;go_wp2_with (first|(at_lookup;refine mz _ rfl _ _ 189 rfl 9 309 WY T0 (.int .i64 0) (wg _) st (gY t.bF) rfl M.u name rfl _ J.u ?_)|(go_at_call 189;refine H.u.mono ?_;clear H;rintro e r ⟨vn,vc,rfl,B,z,v⟩;obtain⟨b,d,rfl⟩:=B.sh;obtain⟨am,g,rfl⟩:=z.sh;unfold aK;have G:=(TF r.heap.size r).alloc ak (.cells #[.string ⟨a.name.toArray⟩,.bool a.ph,.slice b a.aF.length d,.slice am a.aH.length g,.string ⟨a.stem.toArray⟩] 197);have aA:=aB (v.tr G);have C:=aB (HM.u.aE (v.tr G));have d3:=C.u.eE.row.cell? (i:=3) rfl;have ae:Hid (kA _ (⟨a,0,.slice b a.aF.length d,.slice am a.aH.length g⟩:Vq)):=⟨B.bl (Bl.aL G),z.bl (Bl.aL G)⟩;have aa:=aB (aG.bA r 197 [.string ⟨a.name.toArray⟩,.bool a.ph,.slice b a.aF.length d,.slice am a.aH.length g,.string ⟨a.stem.toArray⟩]);clear B z v G)|(at_mapUpdate;refine pT _ rfl _ _ _ 189 rfl 9 309 WY T0 st (gY t.bF) rfl C.u.mp (by unfold gY maxLen;rw[TR];omega) name rfl (.int .i64 1) rfl ?_;intro j Q R;have U:=vJ name 1 t.bF;rw[show ((1:Nat):Int)=1 from rfl] at U;rw[U] at Q;obtain⟨m3,V⟩:=C.u.IF R Q;have K:=aB m3;have ap:=aB V;have A:Hid (aG j r.heap.size 197 [.string ⟨a.name.toArray⟩,.bool a.ph,.slice b a.aF.length d,.slice am a.aH.length g,.string ⟨a.stem.toArray⟩]):=aa.u.tn (lx (p:=λq=>q=st) R rfl) (mA aa.u C.u.mp);have au:=aB (ae.u.bl (C.u.bl V));clear Q R m3 V U)|fail)
    have N:Below j.heap.size j (j.drew.alloc (.cells #[.string ⟨a.name.toArray⟩,.bool a.ph,.slice b a.aF.length d,.slice am a.aH.length g,.string ⟨a.stem.toArray⟩,.int .i64 0] 313)):=((TF j.heap.size j).drew).alloc ak _;have I:=aB (K.u.aE N);have ad:=aB (au.u.bl (Bl.aL N));have af:=aB (aG.bA j.drew 313 [.string ⟨a.name.toArray⟩,.bool a.ph,.slice b a.aF.length d,.slice am a.aH.length g,.string ⟨a.stem.toArray⟩,.int .i64 0]);have d4:=K.u.eE.row.cell? (i:=4) rfl;have b0:=A.u.cell? (i:=0) rfl;have b1:=A.u.cell? (i:=1) rfl;have b2:=A.u.cell? (i:=2) rfl;have b3:=A.u.cell? (i:=3) rfl;have b4:=A.u.cell? (i:=4) rfl;have aT:=A.u.lt;have aQ:=K.u.eE.row.lt;have ac:=aB I.u.opn;have ao:=I.u.lW;have al:Hid (Below L j (j.drew.alloc (.cells #[.string ⟨a.name.toArray⟩,.bool a.ph,.slice b a.aF.length d,.slice am a.aH.length g,.string ⟨a.stem.toArray⟩,.int .i64 0] 313))):=N.mono K.u.lW;have aw:=aB ((aA.u.mono HM.u.lW).trans (C.u.aL ap.u));clear N d3 c3;obtain⟨av,cv,rfl⟩:=gL ac.u;simp only[Act.put];go_region_law (first|(refine pS rfl (.tmp 34) (.tmp 37) 191 rfl L 313 i0 _ 6 96 underlying191 aq ah ar aC rfl (by decide) _ qo.length (qo.flatMap mu) (by rfl) ac.u ⟨j.heap.size,0,none⟩ 1 1 [.string ⟨a.name.toArray⟩,.bool a.ph,.slice b a.aF.length d,.slice am a.aH.length g,.string ⟨a.stem.toArray⟩,.int .i64 0] (by rfl) (by rfl) (λaU u hj=>by rw[ji];exact af.u.cell? hj) (On ⟨a,0,.slice b a.aF.length d,.slice am a.aH.length g⟩ rfl rfl) (by unfold maxLen;omega) (by omega) ao ?_;intro v6 w6 T ab _;obtain⟨a6,c6,rfl⟩:=gL T;obtain⟨S,m6,f6⟩:=I.u.Rf (q:=⟨a,0,.slice b a.aF.length d,.slice am a.aH.length g⟩) ad.u T ab;have y4:=S.cell? (i:=4) rfl;have z4:=S.frozen 4;have az:=aB m6;have aJ:=aB f6;clear m6 f6 T ab S)|fail)
    all_goals go_wp2_with fail
    all_goals go_ret
    all_goals exact⟨rfl,⟨_,_,_,_,az.u,by rw[T',HO.u];rfl,HV.u⟩,(aw.u.trans al.u).trans (I.u.aL aJ.u)⟩
end
theorem Tryz.Ov:(Tryz.prog.info? 197).map (λa=>(a.zero,a.size,a.bytes))=some (some (.agg #[.string ⟨#[]⟩,.bool false,.slice none 0 0,.slice none 0 0,.string ⟨#[]⟩]),5,88):=by kernel_rfl
def lX (t:cE):cE:=match t.opn.getLast? with
 |none=>t
 |some x=>⟨cL t.bF x.1.name 2,t.opn.dropLast,if t.cD.length<=100 then t.cD++[x.1] else t.cD⟩
theorem sW:∀a:List Vq,(a.flatMap mu).length=a.length*6
 |[]=>rfl|q::b=>by have:=sW b;rw[Ud,TE,this,TK];simp[mu];omega
variable {b:Nat}
theorem Ph {W:ax}{B e size n cap:Nat}{a k:List ay}(h:W.ownsRow B e size (.slice (some ⟨b,0,none⟩) (n+1) cap) (n+1) (a++k))(g:a.length=n*size):W.ownsRow B e size (.slice (some ⟨b,0,none⟩) n cap) n a:=by
 refine⟨g,?_⟩;rcases h.2 with⟨f,-⟩|⟨q,u,d,f,i,j,r,o,p,m⟩
 ·cases f
 ·cases f;refine .inr ⟨b,cap,d,rfl,i,j,by omega,o,p,?_⟩;have e:(d.toList.take ((n+1)*size)).take (n*size)=d.toList.take (n*size):=by rw[Yo,VR (U4 _ (by omega))]
  rw[<-e,m,<-g];exact YF
theorem Oa (q:Vq)(d:q.vn.oneCell' =true)(b:q.vc.oneCell' =true):∀u∈lj q,u.oneCell' =true:=by
 intro u a;unfold lj at a;simp only[Ue,Vl,Xm] at a;rcases a with e|e|e|e|e
 ·subst e;rfl
 ·subst e;rfl
 ·subst e;exact d
 ·subst e;exact b
 ·subst e;rfl
section
variable {W X Y:ax} {L wk st:Nat} {c:Ad} {rb:Nat->Nat} {s:St} {vp:ay} {l:df} {bf bi:Nat} {ve:ay} {ef:List bL} {fs:List aI} {aP:Int} {us:List (Nat×List ag)} {v2 vo vv:ay} {bF:dM} {qo qv:List Vq}
theorem eM.Sj {cap:Nat}{q:Vq}(h:eM W L wk st c rb s vp l bf bi ve ef fs aP us v2 (.slice (some ⟨b,0,none⟩) (qo.length+1) cap) vv bF (qo++[q]) qv):
 eM (W.setCell ⟨wk,4,none⟩ (.slice (some ⟨b,0,none⟩) qo.length cap)) L wk st c rb s vp l bf bi ve ef fs aP us v2 (.slice (some ⟨b,0,none⟩) qo.length cap) vv bF qo qv/\Tn (jI wk st (.slice (some ⟨b,0,none⟩) (qo.length+1) cap) vv) W (W.setCell ⟨wk,4,none⟩ (.slice (some ⟨b,0,none⟩) qo.length cap)):=by have e:Tn (jI wk st (.slice (some ⟨b,0,none⟩) (qo.length+1) cap) vv) W (W.setCell ⟨wk,4,none⟩ (.slice (some ⟨b,0,none⟩) qo.length cap)):=Tn.set W ⟨wk,4,none⟩ _ (.inl rfl);have g:=h.bl e;have f:=h.opn;rw[TE,TK,T1,US] at f;have hcut:=Ph f (sW qo);have i:some wk≠(Value.slice (some ⟨b,0,none⟩) qo.length cap).ownBlock:=kE h.eE.row hcut (by decide);have k:some wk≠vv.ownBlock:=kE h.eE.row h.iI (by decide);have j:wk≠st:=mA h.eE.row h.mp;exact⟨h.next e (h.eE.row.set 4 _) (h.mp.setCell (aa9 j) _) (dQ hcut i 4 _) (λd a=>(h.mX d (Ul _ a)).bl g) (dQ h.iI k 4 _) (λd a=>(h.oS d a).bl g),e⟩
theorem eM.Rt (h:eM W L wk st c rb s vp l bf bi ve ef fs aP us v2 vo vv bF qo qv){q:Vq}(v:kA W q)(n:X.ownsRow L 197 5 a (qv.length+1) (qv.flatMap lj++lj q))(d:W.grownBy X vv.ownBlock):
 aG X wk 193 [.pointer (some ⟨c.bb,0,none⟩),.pointer (some ⟨c.bx,0,none⟩),v2,.map (some st),vo,vv]/\eM (X.setCell ⟨wk,5,none⟩ a) L wk st c rb s vp l bf bi ve ef fs aP us v2 vo a bF qo (qv++[q])/\Tn (jI wk st vo vv) W (X.setCell ⟨wk,5,none⟩ a):=by
 have B:Tn (jI wk st vo vv) W X:=Tn.grown d (λk e=> .inr (.inr (.inr e.symm)));have m:Tn (jI wk st vo vv) W (X.setCell ⟨wk,5,none⟩ a):=B.trans (Tn.set X ⟨wk,5,none⟩ a (.inl rfl));have g:=h.eE.row.grown d (kE h.eE.row h.iI (by decide));have j:=h.bl m;have o:some wk≠a.ownBlock:=kE g n (by decide);have A:some wk≠vo.ownBlock:=kE h.eE.row h.opn (by decide);have p:wk≠st:=mA h.eE.row h.mp;have z:vo.ownBlock=none\/vo.ownBlock≠vv.ownBlock:=by
  cases e:vo.ownBlock with
  |none=>exact .inl rfl
  |some k=>refine .inr (λq=> ?_);obtain⟨F,C,y⟩:=eN h.opn k e;obtain⟨u,x,b⟩:=eN h.iI k q.symm;rw[y] at b;cases b
 have w:bC X st (gY bF):=h.mp.kept d (λe=>by obtain⟨u,x,b⟩:=eN h.iI st e.symm;obtain⟨E,D,r,-⟩:=h.mp;rw[r] at b;cases b);refine⟨g,h.next m (g.set 5 a) (w.setCell (aa9 p) a) (dQ (h.opn.kept d z) A 5 a) (λi f=>(h.mX i f).bl j) ?_ ?_,m⟩
 ·have:=dQ n o 5 a;rw[TE,US];simpa using this
 ·intro i f;rcases T4.1 f with e|e
  ·exact(h.oS i e).bl j
  ·rw[TL] at e;subst e;exact v.bl j
theorem Sp (h:eM W L wk st c rb s vp l bf bi ve ef fs aP us v2 vo vv bF qo qv)(i:bF.length<=4294967296)(name:ag):∃a,(Instr.mapUpdate 189 (.map (some st)) (.string ⟨name.toArray⟩) (.int .i64 2)).run prog W= .ok () a /\eM a L wk st c rb s vp l bf bi ve ef fs aP us v2 vo vv (cL bF name 2) qo qv/\Tn (jI wk st vo vv) W a /\W.mapTurned a st:=by obtain⟨a,g,d,e⟩:=h.mp.put (P:=prog) WY T0 (by unfold gY maxLen;rw[TR];omega) name (.int .i64 2);have b:=vJ name 2 bF;rw[show ((2:Nat):Int)=2 from rfl] at b;rw[b] at d;obtain⟨m,f⟩:=h.IF e d;exact⟨a,g,m,f,e⟩
end
