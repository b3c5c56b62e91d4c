/- . -/
import Derived.Test.YtjelacjggijmfaaGreatDoorYGD9
set_option linter.all false
set_option maxHeartbeats 8000000
set_option maxRecDepth 100000
namespace Go.Proofs.YtjelacjggijmfaaGreatDoor
open Pl Mk Cp Proofs.Tryz
open RowKit MapKept ChangeMaps Maps
variable {W X f:ay}{wk bf bi:Nat}{c:Ad}{rb:Nat->Nat}{s:St}{vp ve v2 v3 v4 v5:az}{l:dr}{ef:ga}{fs:fy}
def qG(s:St)(a:aj):cI:=⟨a,decide (a∈s.ph),fX s (s.of a),[],g_ s (s.of a)⟩
def zE(s:St)(c:aj)(a:Nat)(b:aj):cI:=⟨c,decide (c∈s.ph),bR (((bT s a).nd.map λn=>eb n b)++fX s (s.of c)) [],b,(bT s a).cs⟩
def pY(s:St)(b:fy)(a:aj):Bool:=jO s a||decide (a∈s.ph)||(Pl.look b a).isSome
def eM(s:St)(e:fy)(b:List (Nat×fv))(c:aj):cI×Bool:=
 if(g_ s (s.of c)).length=0/\decide (c∈s.ph)=false then
  match kl s e c b with
  |some (d,a)=>(zE s c d a,true)|none=>(qG s c,pY s e c)
 else(qG s c,pY s e c)
theorem yG(f:Nat->fv)(B:Nat):∀a:gb,(∀b∈a,(f b).length<=B)->(a.map f).flatten.length<=a.length*B
 |[],_=>by simp
 |x::d,h=>by have:=yG f B d (λb e=>h b (Yp _ e));have:=h x (Yq ..);rw[YE,adr,X4,Ya,l5];omega
def Oq(s:St)(a:gb)(h:∀b∈a,(bT s b).nd.length<=2000):(fX s a).length<=a.length*2000:=by
 have d:=yG (λb=>(bT s b).nd) 2000 a h;unfold fX;split
 ·next e=>
  cases a with
  |nil=>simp at e
  |cons x f=>have:=h x (Yq ..);simp only[WU,Ya] at*;omega
 have:=(oK (a.map λb=>(bT s b).nd).flatten []).1;simp only[Yr]at this;omega
def rC(h:Ok s wk)(b:bf<s.aG.length):zn (bT s bf):=by
 have e:bT s bf=s.aG[bf]:=by unfold bT;simp[b]
 rw[e];exact h.rs _ (Ym b)
theorem yD{c:aj}:∀{d:List (Nat×fv)} {a:Nat} {b:aj},kl s fs c d=some (a,b)->(∃x∈d,x.1=a)/\b.length<=c.length
 |[],_,_,h=>by cases h
 |x::i,a,b,h=>by
  rw[kl]at h;split at h
  ·cases h;exact⟨⟨x,Yq ..,rfl⟩,Hl _ _⟩
  have⟨⟨y,f,e⟩,g⟩:=yD h;exact⟨⟨y,Yp _ f,e⟩,g⟩
def Bl.trans(h:Bl W X)(k:Bl X f):Bl W f:=⟨λa d b e=>(k.a_ a d b ((h.a_ a d b e).trans e)).trans (h.a_ a d b e),λa d b e=>(k.aI a d b ((h.aI a d b e).trans e)).trans (h.aI a d b e),λa d b e=>(k.zy a d b ((h.zy a d b e).trans e)).trans (h.zy a d b e),λa d b e=>(k.zC a d b ((h.zC a d b e).trans e)).trans (h.zC a d b e),λa d b e=>(k.bW a d b ((h.bW a d b e).trans e)).trans (h.bW a d b e)⟩
def Dk{o:Nat}{g:f'}(h:aF W wk 197 g)(u:az):Bl W (W.ψ wk o u):=by have f:∀(k:Nat) (d:hZ) (e:TypeId) (a:Nat×Nat),W.heap[k]?=some (Obj.cells d e a)->e≠197->(W.ψ wk o u).heap[k]?=W.heap[k]?:=λk d e a b i=>Ys W (η wk o) u k (λq=>by simp only at q;unfold aF at h;rw[q,h]at b;cases b;exact i rfl);exact⟨λk d a b=>f k d _ a b (by decide),λk d a b=>f k d _ a b (by decide),λk d a b=>f k d _ a b (by decide),λk d a b=>f k d _ a b (by decide),λk d a b=>f k d _ a b (by decide)⟩
def uN(h:aF X wk 197 [vp,ve,v2,v3,v4])(u:Below wk W X)(i j m f g:az):
 aF (((((X.ψ wk 0 i).ψ wk 1 j).ψ wk 2 m).ψ wk 3 f).ψ wk 4 g) wk 197 [i,j,m,f,g]/\
 Bl X (((((X.ψ wk 0 i).ψ wk 1 j).ψ wk 2 m).ψ wk 3 f).ψ wk 4 g)/\
 Below wk W (((((X.ψ wk 0 i).ψ wk 1 j).ψ wk 2 m).ψ wk 3 f).ψ wk 4 g):=by
 have c:∀k,k≠wk->(((((X.ψ wk 0 i).ψ wk 1 j).ψ wk 2 m).ψ wk 3 f).ψ wk 4 g).heap[k]?=X.heap[k]?:=λk a=>by rw[Ys _ _ _ _ a,Ys _ _ _ _ a,Ys _ _ _ _ a,Ys _ _ _ _ a,Ys _ _ _ _ a]
 have o:∀(k:Nat) (d:hZ) (e:TypeId) (b:Nat×Nat),X.heap[k]?=some (Obj.cells d e b)->e≠197->k≠wk:=λk d e b a A q=>by unfold aF at h;rw[q,h]at a;cases a;exact A rfl
 exact⟨((((h.set 0 i).set 1 j).set 2 m).set 3 f).set 4 g,⟨λk d b a=>c k (o k d _ b a (by decide)),λk d b a=>c k (o k d _ b a (by decide)),λk d b a=>c k (o k d _ b a (by decide)),λk d b a=>c k (o k d _ b a (by decide)),λk d b a=>c k (o k d _ b a (by decide))⟩,
  ((((u.setCell (p:=η wk 0) ax _).setCell (p:=η wk 1) ax _).setCell (p:=η wk 2) ax _).setCell (p:=η wk 3) ax _).setCell (p:=η wk 4) ax _⟩
section
variable {aQ:Int}
def Rw(t:List (Nat×fv))(name:aj)(k:Nat)(h:oF W wk c rb s vp l bf bi ve ef fs aQ v2 v3 v4 v5)(hu:lO W rb v2 t)(hx:∀x∈t,x.1<s.aG.length/\(bT s x.1).tg≠[]/\(∀y∈(bT s x.1).tg,y.length<=2000)/\x.2.length<=2000/\∀n∈x.2,n.length<=2000)(hn:t.length<=1073741824)(al:Ok s k)(bD:name.length<=1073741824):
 Calls prog 189 #[π wk,σ name] W λe W'=>∃vn vc,e=.returned (.tuple #[.agg #[aK (eM s fs t name).1.name,.bool (eM s fs t name).1.ph,vn,vc,aK (eM s fs t name).1.stem],.bool (eM s fs t name).2])/\gn W' vn (eM s fs t name).1.aH/\pn W' vc (eM s fs t name).1.aI/\μ W W':=by
 unfold π σ;have b0:=(X5 W.heap.size W).alloc ax (.cells #[ε,.bool false,ς,ς,ε] 197);have rT:=aF.bq W 197 [ε,.bool false,ς,ς,ε];have c0:=h.row.cell? (i:=0) rfl;have:=h.row.lt;have⟨ao,co,aw⟩:=(h.bm.of name).sh;rw[Yk]at aw;have aR:=h.bm.ol name;have dA:∀a∈s.of name,(bT s a).nd.length<=2000:=λa hi=>(rC al (aR a hi)).nl;have:=al.ol name;have:=al.tl;have:=al.jo;have b5:=yG (λa=>(bT s a).nd) 2000 (s.of name) dA;have:=Oq s (s.of name) dA;have G:Hid (∀w,μ W w->oF w wk c rb s vp l bf bi ve ef fs aQ v2 v3 v4 v5/\lO w rb v2 t):=λw z=>⟨h.aD z,hu.aD z⟩;have CO:∀w,μ W w->δ 236 #[π c.bb,σ name] w (.slice ao (s.of name).length co):=λw z=>Po c.bb c.nm c.bt c.pb vp s.first l name _ w (G w z).1.bm.bW (G w z).1.bm.iL aw;have CP:∀w,μ W w->γ 237 #[π c.bb,σ name] w (.bool (decide (name∈s.ph))):=λw z=>NR c.bb c.nm c.bt c.pb vp s.first s.ph name w (G w z).1.bm.bW (G w z).1.bm.j8;have CN:∀w,μ W w->Calls prog 238 #[.slice ao (s.of name).length co] w λe i=>∃u,e=.returned u/\gn i u (fX s (s.of name))/\μ w i:=λw z=>Og (s.of name) _ (G w z).1.bm (aw▸(G w z).1.bm.of name) aR (by omega) (by omega);have CC:∀w,μ W w->Calls prog 239 #[.slice ao (s.of name).length co] w λe i=>∃u,e=.returned u/\pn i u (g_ s (s.of name))/\i =w:=λw z=>Mb (s.of name) _ (G w z).1.bm (aw▸(G w z).1.bm.of name) aR (by omega);have CF:∀w,μ W w->γ 240 #[π wk,σ name] w (zA rb (kl s fs name t)):=λw z=>Nj t name (G w z).1 (G w z).2 hx hn bD;have CH:∀w,μ W w->γ 174 #[π c.bx,σ name] w (.bool (Pl.look fs name).isSome):=λw z=>Cn c.bx bf bi ve ef fs aQ name w (G w z).1.pw;have ag:Hid (eM s fs t name=if(g_ s (s.of name)).length=0/\decide (name∈s.ph)=false then match kl s fs name t with|some (a,g)=>(zE s name a g,true)|none=>(qG s name,pY s fs name) else(qG s name,pY s fs name)):=rfl;clear h hu aw;go_in;go_upto_region 3 with(first|(go_at_call 236;refine(CO _ b0).mono ?_;clear CO;rintro e w0⟨rfl,rfl⟩)|(go_at_call 237;refine(CP _ b0).mono ?_;clear CP;rintro e w1⟨rfl,bd⟩;have br:=rT.aD bd;have ba:=b0.tr bd;clear bd)|(go_at_call 238;refine(CN _ ba).mono ?_;clear CN;rintro e w2⟨vn,rfl,bp,aY⟩;have aU:=br.aD aY;have aX:=ba.tr aY;clear aY)|(go_at_call 239;refine(CC _ aX).mono ?_;clear CC;rintro e w3⟨vc,rfl,a0,bk⟩;rw[bk]at a0⊢;clear bk;have⟨q,m,b8⟩:=bp.sh;have⟨H,D,b1⟩:=a0.sh;subst b8 b1))
 have rN:=aF.bq w2 197 [σ name,.bool (decide (name∈s.ph)),.slice q (fX s (s.of name)).length m,.slice H (g_ s (s.of name)).length D,ε];have bV:=(X5 w2.heap.size w2).alloc ax (.cells #[σ name,.bool (decide (name∈s.ph)),.slice q (fX s (s.of name)).length m,.slice H (g_ s (s.of name)).length D,ε] 197);have aO:=aU.lt;have C:=aU.aD bV;have ad:=bp.bl (Bl.aP bV);have ah:=a0.bl (Bl.aP bV);have ac:=aX.tr bV;obtain⟨N,hN⟩:∃N,N=w2.heap.size:=⟨_,rfl⟩;rw[<-hN]at rN aO;rw[<-hN];obtain⟨V,hV⟩:∃V,V=w2.alloc (.cells #[σ name,.bool (decide (name∈s.ph)),.slice q (fX s (s.of name)).length m,.slice H (g_ s (s.of name)).length D,ε] 197):=⟨_,rfl⟩;rw[<-hV]at rN C ad ah ac⊢;have bc:Hid (jO s name=decide (0<(s.of name).length)):=rfl;have Y:Hid (pY s fs name=(jO s name||decide (name∈s.ph)||(Pl.look fs name).isSome)):=rfl;have aA:Hid (0<(g_ s (s.of name)).length->0<(s.of name).length):=λe=>by
  cases hq:s.of name with
  |nil=>rw[hq]at e;simp[g_]at e
  |cons x y=>simp
 have ae:Hid (qG s name=⟨name,decide (name∈s.ph),fX s (s.of name),[],g_ s (s.of name)⟩):=rfl;have ap:Hid (∀a g,zE s name a g=⟨name,decide (name∈s.ph),bR (((bT s a).nd.map λn=>eb n g)++fX s (s.of name)) [],g,(bT s a).cs⟩):=λ_ _=>rfl;clear hV hN aX aU bV ba br aR dA b5 c0;generalize decide (name∈s.ph)=ph at*;generalize fX s (s.of name)=d at*;generalize g_ s (s.of name)=r at*;have g0:=rN.cell? (i:=0) rfl;have g1:=rN.cell? (i:=1) rfl;have g2:=rN.cell? (i:=2) rfl;have g3:=rN.cell? (i:=3) rfl;have g4:=rN.cell? (i:=4) rfl;have y0:=C.cell? (i:=0) rfl;have y1:=C.cell? (i:=1) rfl;have y2:=C.cell? (i:=2) rfl;have y3:=C.cell? (i:=3) rfl;have y4:=C.cell? (i:=4) rfl;have z0:=C.frozen 0;have z1:=C.frozen 1;have z2:=C.frozen 2;have z3:=C.frozen 3;have z4:=C.frozen 4;by_cases hc:r.length=0
 ·have:((r.length:Int)==0)=true:=by rw[Zj];omega
  cases ph with
  |true=>
   have J:Hid (eM s fs t name=(⟨name,true,d,[],r⟩,true)):=by show _=_;rw[ag.u,Yb (by simp),ae.u,Y.u];simp
   clear ag ae Y ap aA;obtain⟨ph,bo⟩:∃ph,ph=true:=⟨_,rfl⟩;by_cases he:0<(s.of name).length
   ·clear hc bo ph;go_wp2
    go_region
    all_goals go_wp2
    all_goals(have⟨b,B,Q⟩:=uN C ac (σ name) (.bool true) (.slice q d.length m) (.slice H r.length D) (ε))
    all_goals have U:=b.cell? (i:=0) rfl
    all_goals have S:=b.cell? (i:=1) rfl
    all_goals have L:=b.cell? (i:=2) rfl
    all_goals have R:=b.cell? (i:=3) rfl
    all_goals have P:=b.cell? (i:=4) rfl
    all_goals refine Yw (v:=.tuple #[.agg #[σ name,.bool true,.slice q d.length m,.slice H r.length D,ε],.bool true]) (by simp[results,results189,go_sem,U,S,L,R,P]) rfl ?_
    all_goals rw[J.u]
    all_goals exact⟨_,_,rfl,(ad.bl B).bl (Bl.aP (X5 _ _).drew),(ah.bl B).bl (Bl.aP (X5 _ _).drew),Q.drew⟩
   clear hc bo ph;go_wp2
   go_region
   all_goals go_wp2
   all_goals(have⟨b,B,Q⟩:=uN C ac (σ name) (.bool true) (.slice q d.length m) (.slice H r.length D) (ε))
   all_goals have U:=b.cell? (i:=0) rfl
   all_goals have S:=b.cell? (i:=1) rfl
   all_goals have L:=b.cell? (i:=2) rfl
   all_goals have R:=b.cell? (i:=3) rfl
   all_goals have P:=b.cell? (i:=4) rfl
   all_goals refine Yw (v:=.tuple #[.agg #[σ name,.bool true,.slice q d.length m,.slice H r.length D,ε],.bool true]) (by simp[results,results189,go_sem,U,S,L,R,P]) rfl ?_
   all_goals rw[J.u]
   all_goals exact⟨_,_,rfl,(ad.bl B).bl (Bl.aP (X5 _ _).drew),(ah.bl B).bl (Bl.aP (X5 _ _).drew),Q.drew⟩
  |false=>
   have aa:=ag;rw[Yd ⟨hc,rfl⟩]at aa;have F:=CF V ac;clear ag CF;cases av:kl s fs name t with
   |none=>
    rw[av]at aa F;unfold zA at F;simp only at aa F;have J:Hid (eM s fs t name=(⟨name,false,d,[],r⟩,pY s fs name)):=by show _=_;rw[aa,ae.u]
    clear aa ae ap aA av;by_cases he:0<(s.of name).length
    ·have aL:pY s fs name=true:=by rw[Y.u,bc.u,Y6 he];simp
     rw[aL]at J;clear hc aL Y;go_wp2_with (go_at_call 240;refine F.mono ?_;clear F;rintro e f⟨rfl,j⟩;clear g0 g1 g2 g3 g4 y0 y1 y2 y3 y4 z0 z1 z2 z3 z4;have g0:=(rN.aD j).cell? (i:=0) rfl;have g1:=(rN.aD j).cell? (i:=1) rfl;have g2:=(rN.aD j).cell? (i:=2) rfl;have g3:=(rN.aD j).cell? (i:=3) rfl;have g4:=(rN.aD j).cell? (i:=4) rfl;have E:=C.aD j;have y0:=E.cell? (i:=0) rfl;have y1:=E.cell? (i:=1) rfl;have y2:=E.cell? (i:=2) rfl;have y3:=E.cell? (i:=3) rfl;have y4:=E.cell? (i:=4) rfl;have z0:=E.frozen 0;have z1:=E.frozen 1;have z2:=E.frozen 2;have z3:=E.frozen 3;have z4:=E.frozen 4;have aE:=ad.bl (Bl.aP j);have a_:=ah.bl (Bl.aP j);have ab:=ac.tr j;clear j)
     go_region
     all_goals go_wp2
     all_goals(have⟨b,B,Q⟩:=uN E ab (σ name) (.bool false) (.slice q d.length m) (.slice H r.length D) (ε))
     all_goals have U:=b.cell? (i:=0) rfl
     all_goals have S:=b.cell? (i:=1) rfl
     all_goals have L:=b.cell? (i:=2) rfl
     all_goals have R:=b.cell? (i:=3) rfl
     all_goals have P:=b.cell? (i:=4) rfl
     all_goals refine Yw (v:=.tuple #[.agg #[σ name,.bool false,.slice q d.length m,.slice H r.length D,ε],.bool true]) (by simp[results,results189,go_sem,U,S,L,R,P]) rfl ?_
     all_goals rw[J.u]
     all_goals exact⟨_,_,rfl,(aE.bl B).bl (Bl.aP (X5 _ _).drew),(a_.bl B).bl (Bl.aP (X5 _ _).drew),Q.drew⟩
    have aL:pY s fs name=(Pl.look fs name).isSome:=by rw[Y.u,bc.u,Y9 he];simp
    rw[aL]at J;clear hc aL Y;generalize (Pl.look fs name).isSome=hs at*;go_wp2_with (go_at_call 240;refine F.mono ?_;clear F;rintro e f⟨rfl,j⟩;clear g0 g1 g2 g3 g4 y0 y1 y2 y3 y4 z0 z1 z2 z3 z4;have K:=aC (rN.aD j);have E:=C.aD j;have aE:=ad.bl (Bl.aP j);have a_:=ah.bl (Bl.aP j);have ab:=ac.tr j;clear j)
    have g0:=K.cell? (i:=0) rfl;have g1:=K.cell? (i:=1) rfl;have g2:=K.cell? (i:=2) rfl;have g3:=K.cell? (i:=3) rfl;have g4:=K.cell? (i:=4) rfl;have aV:=(G f ab).1.row;have k1:=aV.cell? (i:=1) rfl;have bF:f.drew.χ N 0=some (σ name):=g0;have b6:f.drew.χ N 1=some (.bool false):=g1;have bU:f.drew.χ N 2=some (.slice q d.length m):=g2;have bJ:f.drew.χ N 3=some (.slice H r.length D):=g3;have b7:f.drew.χ N 4=some (ε):=g4;have bB:f.drew.χ wk 1=some (π c.bx):=k1;have Z:N≠W.heap.size:=by omega
    have aB:wk≠W.heap.size:=by omega
    go_region_held_law (λi=>i.χ N 0=some (σ name)/\i.χ N 1=some (.bool false)/\i.χ N 2=some (.slice q d.length m)/\i.χ N 3=some (.slice H r.length D)/\i.χ N 4=some (ε)/\i.χ wk 1=some (π c.bx)) (first|with_reducible exact⟨bF,b6,bU,bJ,b7,bB⟩|with_reducible exact⟨l0,l1,l2,l3,l4,m1⟩|with_reducible exact⟨p0,p1,p2,p3,p4,q1⟩) (first|(go_simp;go_at_call 174;refine κ (CH _ ab.drew) λA bv=>?_;have O:=(X5 f.heap.size f).drew.trans bv;have ai:=K.aD O;have l0:=ai.cell? (i:=0) rfl;have l1:=ai.cell? (i:=1) rfl;have l2:=ai.cell? (i:=2) rfl;have l3:=ai.cell? (i:=3) rfl;have l4:=ai.cell? (i:=4) rfl;have bn:=aV.aD O;have m1:=bn.cell? (i:=1) rfl;have I:=E.aD O;have y0:=I.cell? (i:=0) rfl;have y1:=I.cell? (i:=1) rfl;have y2:=I.cell? (i:=2) rfl;have y3:=I.cell? (i:=3) rfl;have y4:=I.cell? (i:=4) rfl;have z0:=I.frozen 0;have z1:=I.frozen 1;have z2:=I.frozen 2;have z3:=I.frozen 3;have z4:=I.frozen 4;have bI:=aE.bl (Bl.aP O);have bL:=a_.bl (Bl.aP O);have a5:=ab.tr O;have af:=((((ai.dI Z 0 (σ name)).dI Z 1 (.bool false)).dI Z 2 (.slice q d.length m)).dI Z 3 (.slice H r.length D)).dI Z 4 (ε);have p0:=af.cell? (i:=0) rfl;have p1:=af.cell? (i:=1) rfl;have p2:=af.cell? (i:=2) rfl;have p3:=af.cell? (i:=3) rfl;have p4:=af.cell? (i:=4) rfl;have q1:=(((((bn.dI aB 0 (σ name)).dI aB 1 (.bool false)).dI aB 2 (.slice q d.length m)).dI aB 3 (.slice H r.length D)).dI aB 4 (ε)).cell? (i:=1) rfl;clear O bv af))
    all_goals go_wp2
    all_goals(have⟨b,B,Q⟩:=uN I a5 (σ name) (.bool false) (.slice q d.length m) (.slice H r.length D) (ε))
    all_goals have U:=b.cell? (i:=0) rfl
    all_goals have S:=b.cell? (i:=1) rfl
    all_goals have L:=b.cell? (i:=2) rfl
    all_goals have R:=b.cell? (i:=3) rfl
    all_goals have P:=b.cell? (i:=4) rfl
    all_goals refine Yw (v:=.tuple #[.agg #[σ name,.bool false,.slice q d.length m,.slice H r.length D,ε],.bool hs]) (by simp[results,results189,go_sem,U,S,L,R,P]) rfl ?_
    all_goals rw[J.u]
    all_goals exact⟨_,_,rfl,bI.bl B,bL.bl B,Q⟩
   |some fx=>
    obtain⟨fi,g⟩:=fx;rw[av]at aa F;unfold zA at F;simp only at aa F;have⟨bN,ca⟩:=yD av;obtain⟨xx,bY,rfl⟩:=bN;have bj:=(hx xx bY).1;have bs:=rC al bj;have J:Hid (eM s fs t name=(⟨name,false,bR (((bT s xx.1).nd.map λn=>eb n g)++d) [],g,(bT s xx.1).cs⟩,true)):=by show _=_;rw[aa,ap.u]
    clear aa ae ap aA av hc Y;generalize xx.1=fi at*;have ce:=bs.nl;have bA:=bs.nw;generalize b4:bT s fi=X at*;unfold dE at F;go_wp2_with (go_at_call 240;refine F.mono ?_;clear F;rintro e f⟨rfl,j⟩;clear g0 g1 g2 g3 g4 y0 y1 y2 y3 y4 z0 z1 z2 z3 z4;have K:=aC (rN.aD j);have E:=C.aD j;have aE:=ad.bl (Bl.aP j);have ab:=ac.tr j;clear j)
    have a9:=(G f ab).1;obtain⟨vt,cf,cb,aT,-,aN,aM⟩:=a9.bm.aG fi bj;rw[b4]at aN aM;obtain⟨ar,cr,rfl⟩:=aN.sh;obtain⟨aq,cq,rfl⟩:=aM.sh;have⟨nb,no,au⟩:=aN.rd;have:rb fi≠N:=λe=>by have q1:=aT;have q2:=K;unfold aF at q1 q2;rw[e,q2]at q1;cases q1
    have Z:N≠W.heap.size:=by omega
    have:=aT.cell? (i:=1) rfl;have:=K.cell? (i:=2) rfl;have a8:μ f f.drew:=(X5 _ f).drew;have CS:=aC (MR X.nd g ar cr nb no f.drew (λe=>⟨(au e).1,(au e).2.1,(au e).2.2.aP a8 (au e).2.1⟩) (a9.fQ.aD a8) (by omega) (λn hn=>⟨by have:=bA n hn;omega,by have:=bA n hn;have:=KG n;have:Lib.countB ⟨n.toArray⟩ ⟨#[37]⟩*g.length<=2000*1073741824:=Nat.mul_le_mul (by omega) (by omega);omega⟩));have CQ:∀A u6,μ f A->gn A u6 (X.nd.map λn=>eb n g)->Calls prog 230 #[ξ A.heap.size 2 2] (A.alloc (.cells #[u6,.slice q d.length m] 30)) λe i=>∃u,e=.returned u/\gn i u (bR (((X.nd.map λn=>eb n g))++d) [])/\μ f i:=λA u6 aZ bM=>by
     have b2:=(X5 A.heap.size A).alloc ax (.cells #[u6,.slice q d.length m] 30);have bg:[(X.nd.map λn=>eb n g),d].flatten=(X.nd.map λn=>eb n g)++d:=by simp
     have hC:=BY [(X.nd.map λn=>eb n g),d] (some (η A.heap.size 0)) 2 A.heap.size 0 (A.alloc (.cells #[u6,.slice q d.length m] 30)) (λ_=>⟨rfl,by simp,λb3 x hj=>?_⟩) (by simp) (by rw[bg,X4,Yk];omega)
     ·rw[bg]at hC;refine hC.mono ?_;rintro e i⟨u,rfl,ho,hb⟩;have:=X_ A (.cells #[u6,.slice q d.length m] 30);exact⟨u,rfl,gn.bG ho,(aZ.tr b2).trans (hb.mono (by have:=aZ.size;omega))⟩
     have bz:=aF.bq A 30 [u6,.slice q d.length m]
     match b3,hj with
     |0,hj=>cases hj;exact⟨_,bz.cell? (i:=0) rfl,(bM.bl (Bl.aP b2)).tQ⟩
     |1,hj=>cases hj;exact⟨_,bz.cell? (i:=1) rfl,((aE.bl (Bl.aP aZ)).bl (Bl.aP b2)).tQ⟩
    clear a9 aN au a8;go_region_law (first|(go_simp;go_at_call 241;refine CS.mono ?_;rintro e A⟨u6,rfl,a3,bw⟩;have O:=(X5 f.heap.size f).drew.trans bw;have c2:=(K.aD O).cell? (i:=2) rfl;have b9:Hid (gn A u6 (X.nd.map λn=>eb n g)):=gn.bG (by rw[Yk,k6];exact a3);have a5:=O;obtain⟨a6,c6,rfl⟩:=fp a3;clear a3 bw O)|(go_simp;go_at_call 230;refine(CQ A _ a5 b9).mono ?_;rintro e w6⟨u7,rfl,a4,ak⟩;have M:=K.aD ak;have bS:=aT.aD ak;have T:=E.aD ak;have bZ:=aM.bl (Bl.aP ak);obtain⟨a7,c7,rfl⟩:=a4.sh;have bE:=ab.tr ak;have:=M.cell? (i:=0) rfl;have:=M.cell? (i:=1) rfl;have:=M.cell? (i:=2) rfl;have:=M.cell? (i:=3) rfl;have:=M.cell? (i:=4) rfl;have:=M.frozen 2;have:=M.frozen 3;have:=M.frozen 4;have:=bS.cell? (i:=2) rfl;have y0:=T.cell? (i:=0) rfl;have y1:=T.cell? (i:=1) rfl;have y2:=T.cell? (i:=2) rfl;have y3:=T.cell? (i:=3) rfl;have y4:=T.cell? (i:=4) rfl;have z0:=T.frozen 0;have z1:=T.frozen 1;have z2:=T.frozen 2;have z3:=T.frozen 3;have z4:=T.frozen 4;clear ak))
    all_goals go_wp2
    all_goals have bK:=((T.dI Z.symm 2 (.slice a7 (bR (List.map (λn=>eb n g) X.nd++d) []).length c7)).dI Z.symm 3 (.slice aq X.cs.length cq)).dI Z.symm 4 (σ g)
    all_goals have bQ:=((bE.setCell (p:=η N 2) (lg aO) (.slice a7 (bR (List.map (λn=>eb n g) X.nd++d) []).length c7)).setCell (p:=η N 3) (lg aO) (.slice aq X.cs.length cq)).setCell (p:=η N 4) (lg aO) (σ g)
    all_goals have be:=((Dk (o:=2) M (.slice a7 (bR (List.map (λn=>eb n g) X.nd++d) []).length c7)).trans (Dk (o:=3) (M.set 2 _) (.slice aq X.cs.length cq))).trans (Dk (o:=4) ((M.set 2 _).set 3 _) (σ g))
    all_goals(have⟨b,B,Q⟩:=uN bK bQ (σ name) (.bool false) (.slice a7 (bR (List.map (λn=>eb n g) X.nd++d) []).length c7) (.slice aq X.cs.length cq) (σ g))
    all_goals have U:=b.cell? (i:=0) rfl
    all_goals have S:=b.cell? (i:=1) rfl
    all_goals have L:=b.cell? (i:=2) rfl
    all_goals have R:=b.cell? (i:=3) rfl
    all_goals have P:=b.cell? (i:=4) rfl
    all_goals refine Yw (v:=.tuple #[.agg #[σ name,.bool false,.slice a7 (bR (List.map (λn=>eb n g) X.nd++d) []).length c7,.slice aq X.cs.length cq,σ g],.bool true]) (by simp[results,results189,go_sem,U,S,L,R,P]) rfl ?_
    all_goals rw[J.u]
    all_goals exact⟨_,_,rfl,(a4.bl be).bl B,(bZ.bl be).bl B,Q⟩
 have:((r.length:Int)==0)=false:=by rw[Yi];omega
 have bH:=aA (by omega)
 have J:Hid (eM s fs t name=(⟨name,ph,d,[],r⟩,true)):=by show _=_;rw[ag.u,Yb (λe=>hc e.1),ae.u,Y.u,bc.u,Y6 bH];simp
 clear ag ae Y ap aA hc;go_wp2
 go_region
 all_goals go_wp2
 all_goals(have⟨b,B,Q⟩:=uN C ac (σ name) (.bool ph) (.slice q d.length m) (.slice H r.length D) (ε))
 all_goals have U:=b.cell? (i:=0) rfl
 all_goals have S:=b.cell? (i:=1) rfl
 all_goals have L:=b.cell? (i:=2) rfl
 all_goals have R:=b.cell? (i:=3) rfl
 all_goals have P:=b.cell? (i:=4) rfl
 all_goals refine Yw (v:=.tuple #[.agg #[σ name,.bool ph,.slice q d.length m,.slice H r.length D,ε],.bool true]) (by simp[results,results189,go_sem,U,S,L,R,P]) rfl ?_
 all_goals rw[J.u]
 all_goals exact⟨_,_,rfl,(ad.bl B).bl (Bl.aP (X5 _ _).drew),(ah.bl B).bl (Bl.aP (X5 _ _).drew),Q.drew⟩
end


