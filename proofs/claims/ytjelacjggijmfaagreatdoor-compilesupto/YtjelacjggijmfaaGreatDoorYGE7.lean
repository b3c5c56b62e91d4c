/- . -/
import Derived.Test.YtjelacjggijmfaaGreatDoorYGE6
set_option maxHeartbeats 8000000
set_option maxRecDepth 100000
namespace Go.Proofs.YtjelacjggijmfaaGreatDoor
open Pl Mk Cp Proofs.Tryz
open RowKit MapKept ChangeMaps Maps
def pz (s:St)(name:ag):cA:=⟨name,decide (name∈s.ph),fu s (s.of name),[],gA s (s.of name)⟩
def xS (s:St)(name:ag)(a:Nat)(b:ag):cA:=⟨name,decide (name∈s.ph),bJ (((bK s a).nd.map λn=>dJ n b)++fu s (s.of name)) [],b,(bK s a).cs⟩
def oJ (s:St)(fs:List aI)(name:ag):Bool:=je s name||decide (name∈s.ph)||(Pl.look fs name).isSome
def ea (s:St)(fs:List aI)(b:List (Nat×List ag))(name:ag):cA×Bool:=
 if(gA s (s.of name)).length=0/\decide (name∈s.ph)=false then
  match jE s fs name b with
  |some (d,a)=>(xS s name d a,true)|none=>(pz s name,oJ s fs name)
 else(pz s name,oJ s fs name)
theorem wQ (f:Nat->List ag)(B:Nat):∀b:List Nat,(∀a∈b,(f a).length<=B)->(b.map f).flatten.length<=b.length*B
 |[],_=>by simp
 |x::d,h=>by have i:=wQ f B d (λa e=>h a (TX _ e));have g:=h x (TY ..);rw[Ug,YR,TE,TK,VO];omega
theorem KW (s:St)(a:List Nat)(h:∀b∈a,(bK s b).nd.length<=2000):(fu s a).length<=a.length*2000:=by
 have f:=wQ (λb=>(bK s b).nd) 2000 a h;unfold fu;split
 ·next e=>
  cases a with
  |nil=>simp at e
  |cons x d=>have:=h x (TY ..);simp only[XC,TK] at*;omega
 ·have:=(nh (a.map λb=>(bK s b).nd).flatten []).1;simp only[T1] at this;omega
theorem qc {s:St}{k a:Nat}(h:Ok s k)(b:a<s.aD.length):xz (bK s a):=by
 have e:bK s a=s.aD[a]:=by unfold bK;simp[b]
 rw[e];exact h.rs _ (TV b)
theorem wM {s:St}{fs:List aI}{name:ag}:∀{d:List (Nat×List ag)} {a:Nat} {b:ag},jE s fs name d=some (a,b)->(∃x∈d,x.1=a)/\b.length<=name.length
 |[],_,_,h=>by cases h
 |x::i,a,b,h=>by
  rw[jE] at h;split at h
  ·cases h;exact⟨⟨x,TY ..,rfl⟩,EH _ _⟩
  ·obtain⟨⟨y,g,e⟩,f⟩:=wM h;exact⟨⟨y,TX _ g,e⟩,f⟩
theorem Bl.trans {W X Y:ax}(h:Bl W X)(k:Bl X Y):Bl W Y:=⟨λd a b e=>(k.aY d a b ((h.aY d a b e).trans e)).trans (h.aY d a b e),λd a b e=>(k.aH d a b ((h.aH d a b e).trans e)).trans (h.aH d a b e),λd a b e=>(k.xK d a b ((h.xK d a b e).trans e)).trans (h.xK d a b e),λd a b e=>(k.xP d a b ((h.xP d a b e).trans e)).trans (h.xP d a b e),λd a b e=>(k.cV d a b ((h.cV d a b e).trans e)).trans (h.cV d a b e)⟩
theorem Au {w:ax}{N o:Nat}{i:List ay}(h:aG w N 197 i)(u:ay):Bl w (w.setCell ⟨N,o,none⟩ u):=by have f:∀(k:Nat) (b:Array ay) (e:TypeId) (d:Nat×Nat),w.heap[k]?=some (Obj.cells b e d)->e≠197->(w.setCell ⟨N,o,none⟩ u).heap[k]?=w.heap[k]?:=λk b e d a g=>T5 w ⟨N,o,none⟩ u k (λq=>by simp only at q;unfold aG at h;rw[q,h] at a;cases a;exact g rfl);exact⟨λk b d a=>f k b _ d a (by decide),λk b d a=>f k b _ d a (by decide),λk b d a=>f k b _ d a (by decide),λk b d a=>f k b _ d a (by decide),λk b d a=>f k b _ d a (by decide)⟩
theorem sP {r w:ax}{n:Nat}{z y v t A:ay}(h:aG w n 197 [z,y,v,t,A])(u:Below n r w)(m i j g f:ay):
 aG (((((w.setCell ⟨n,0,none⟩ m).setCell ⟨n,1,none⟩ i).setCell ⟨n,2,none⟩ j).setCell ⟨n,3,none⟩ g).setCell ⟨n,4,none⟩ f) n 197 [m,i,j,g,f]/\
 Bl w (((((w.setCell ⟨n,0,none⟩ m).setCell ⟨n,1,none⟩ i).setCell ⟨n,2,none⟩ j).setCell ⟨n,3,none⟩ g).setCell ⟨n,4,none⟩ f)/\
 Below n r (((((w.setCell ⟨n,0,none⟩ m).setCell ⟨n,1,none⟩ i).setCell ⟨n,2,none⟩ j).setCell ⟨n,3,none⟩ g).setCell ⟨n,4,none⟩ f):=by
 have key:∀k,k≠n->(((((w.setCell ⟨n,0,none⟩ m).setCell ⟨n,1,none⟩ i).setCell ⟨n,2,none⟩ j).setCell ⟨n,3,none⟩ g).setCell ⟨n,4,none⟩ f).heap[k]?=w.heap[k]?:=λk a=>by rw[T5 _ _ _ _ a,T5 _ _ _ _ a,T5 _ _ _ _ a,T5 _ _ _ _ a,T5 _ _ _ _ a]
 have o:∀(k:Nat) (b:Array ay) (e:TypeId) (d:Nat×Nat),w.heap[k]?=some (Obj.cells b e d)->e≠197->k≠n:=λk b e d a x q=>by unfold aG at h;rw[q,h] at a;cases a;exact x rfl
 exact⟨((((h.set 0 m).set 1 i).set 2 j).set 3 g).set 4 f,⟨λk b d a=>key k (o k b _ d a (by decide)),λk b d a=>key k (o k b _ d a (by decide)),λk b d a=>key k (o k b _ d a (by decide)),λk b d a=>key k (o k b _ d a (by decide)),λk b d a=>key k (o k b _ d a (by decide))⟩,
  ((((u.setCell (p:=⟨n,0,none⟩) ak _).setCell (p:=⟨n,1,none⟩) ak _).setCell (p:=⟨n,2,none⟩) ak _).setCell (p:=⟨n,3,none⟩) ak _).setCell (p:=⟨n,4,none⟩) ak _⟩
section
variable {W X:ax} {wk:Nat} {c:Ad} {rb:Nat->Nat} {s:St} {vp:ay} {l:df} {bf bi:Nat} {ve:ay} {ef:List bL} {fs:List aI} {aP:Int} {v2 v3 v4 v5:ay}
theorem NO (z:List (Nat×List ag))(name:ag)(k:Nat)(h:mV W wk c rb s vp l bf bi ve ef fs aP v2 v3 v4 v5)(hu:kz W rb v2 z)(hx:∀x∈z,x.1<s.aD.length/\(bK s x.1).tg≠[]/\(∀y∈(bK s x.1).tg,y.length<=2000)/\x.2.length<=2000/\∀n∈x.2,n.length<=2000)(hn:z.length<=1073741824)(aA:Ok s k)(b4:name.length<=1073741824):
 Calls prog 189 #[.pointer (some ⟨wk,0,none⟩),.string ⟨name.toArray⟩] W λe W'=>∃vn vc,e= .returned (.tuple #[.agg #[aK (ea s fs z name).1.name,.bool (ea s fs z name).1.ph,vn,vc,aK (ea s fs z name).1.stem],.bool (ea s fs z name).2])/\fF W' vn (ea s fs z name).1.aF/\nS W' vc (ea s fs z name).1.aH/\Below W.heap.size W W' :=by
 have b0:=(TF W.heap.size W).alloc ak (.cells #[.string ⟨#[]⟩,.bool false,.slice none 0 0,.slice none 0 0,.string ⟨#[]⟩] 197);have rT:=aG.bA W 197 [.string ⟨#[]⟩,.bool false,.slice none 0 0,.slice none 0 0,.string ⟨#[]⟩];have c0:=h.row.cell? (i:=0) rfl;have lw:=h.row.lt;obtain⟨ao,co,au⟩:=(h.bm.of name).sh;rw[TR] at au;have aQ:∀a∈s.of name,a<s.aD.length:=h.bm.ol name;have bc:∀a∈s.of name,(bK s a).nd.length<=2000:=λa hi=>(qc aA (aQ a hi)).nl;have cf:=aA.ol name;have ca:=aA.tl;have b':=aA.iP;have bC:=wQ (λa=>(bK s a).nd) 2000 (s.of name) bc;have b_:=KW s (s.of name) bc;have F:Hid (∀w,Below W.heap.size W w->mV w wk c rb s vp l bf bi ve ef fs aP v2 v3 v4 v5/\kz w rb v2 z):=λw t=>⟨h.aE t,hu.aE t⟩;have CO:Hid (∀w,Below W.heap.size W w->Calls prog 236 #[.pointer (some ⟨c.bb,0,none⟩),.string ⟨name.toArray⟩] w λe i=>e= .returned (.slice ao (s.of name).length co)/\i =w):=λw t=>LP c.bb c.nm c.bt c.pb vp s.first l name _ w (F.u w t).1.bm.cV (F.u w t).1.bm.ij au;have CP:Hid (∀w,Below W.heap.size W w->Calls prog 237 #[.pointer (some ⟨c.bb,0,none⟩),.string ⟨name.toArray⟩] w λe i=>e= .returned (.bool (decide (name∈s.ph)))/\Below w.heap.size w i):=λw t=>KE c.bb c.nm c.bt c.pb vp s.first s.ph name w (F.u w t).1.bm.cV (F.u w t).1.bm.jt;have CN:Hid (∀w,Below W.heap.size W w->Calls prog 238 #[.slice ao (s.of name).length co] w λe i=>∃u,e= .returned u/\fF i u (fu s (s.of name))/\Below w.heap.size w i):=λw t=>KQ (s.of name) _ (F.u w t).1.bm (au▸(F.u w t).1.bm.of name) aQ (by omega) (by omega);have CC:Hid (∀w,Below W.heap.size W w->Calls prog 239 #[.slice ao (s.of name).length co] w λe i=>∃u,e= .returned u/\nS i u (gA s (s.of name))/\i =w):=λw t=>Ju (s.of name) _ (F.u w t).1.bm (au▸(F.u w t).1.bm.of name) aQ (by omega);have CF:Hid (∀w,Below W.heap.size W w->Calls prog 240 #[.pointer (some ⟨wk,0,none⟩),.string ⟨name.toArray⟩] w λe i=>e= .returned (xM rb (jE s fs name z))/\Below w.heap.size w i):=λw t=>Kl z name (F.u w t).1 (F.u w t).2 hx hn b4;have CH:Hid (∀w,Below W.heap.size W w->Calls prog 174 #[.pointer (some ⟨c.bx,0,none⟩),.string ⟨name.toArray⟩] w λe i=>e= .returned (.bool (Pl.look fs name).isSome)/\Below w.heap.size w i):=λw t=>GX c.bx bf bi ve ef fs aP name w (F.u w t).1.pw;have ah:Hid (ea s fs z name=if(gA s (s.of name)).length=0/\decide (name∈s.ph)=false then match jE s fs name z with|some (a,g)=>(xS s name a g,true)|none=>(pz s name,oJ s fs name) else(pz s name,oJ s fs name)):=rfl;have aT:=aB b0;have bk:=aB rT;clear h hu b0 rT au;go_enter func189,ntmps189;go_upto_region 3 with(first|(go_at_call 236;refine(CO.u _ aT.u).mono ?_;clear CO;rintro e w0 ⟨rfl,rfl⟩)|(go_at_call 237;refine(CP.u _ aT.u).mono ?_;clear CP;rintro e w1 ⟨rfl,aX⟩;have bg:=aB (bk.u.aE aX);have a4:=aB (aT.u.tr aX);clear aX)|(go_at_call 238;refine(CN.u _ a4.u).mono ?_;clear CN;rintro e w2 ⟨vn,rfl,br,ba⟩;have aZ:=aB br;have a0:=aB (bg.u.aE ba);have aU:=aB (a4.u.tr ba);clear br ba)|(go_at_call 239;refine(CC.u _ aU.u).mono ?_;clear CC;rintro e w3 ⟨vc,rfl,a3,bn⟩;rw[bn] at a3⊢;have aW:=aB a3;clear a3 bn;obtain⟨m,q,bD⟩:=aZ.u.sh;obtain⟨am,B,bO⟩:=aW.u.sh;subst bD bO)|fail)
 have rN:=aG.bA w2 197 [.string ⟨name.toArray⟩,.bool (decide (name∈s.ph)),.slice m (fu s (s.of name)).length q,.slice am (gA s (s.of name)).length B,.string ⟨#[]⟩];have bV:=(TF w2.heap.size w2).alloc ak (.cells #[.string ⟨name.toArray⟩,.bool (decide (name∈s.ph)),.slice m (fu s (s.of name)).length q,.slice am (gA s (s.of name)).length B,.string ⟨#[]⟩] 197);have aO:W.heap.size<w2.heap.size:=a0.u.lt;have D:=aB (a0.u.aE bV);have ad:=aB (aZ.u.bl (Bl.aL bV));have af:=aB (aW.u.bl (Bl.aL bV));have ab:=aB (aU.u.tr bV);obtain⟨N,hN⟩:∃N,N=w2.heap.size:=⟨_,rfl⟩;rw[<-hN] at rN aO;rw[<-hN];obtain⟨V,hV⟩:∃V,V=w2.alloc (.cells #[.string ⟨name.toArray⟩,.bool (decide (name∈s.ph)),.slice m (fu s (s.of name)).length q,.slice am (gA s (s.of name)).length B,.string ⟨#[]⟩] 197):=⟨_,rfl⟩;rw[<-hV] at rN D ad af ab⊢;have H:=aB rN;have a9:Hid (je s name=decide (0<(s.of name).length)):=rfl;have aa:Hid (oJ s fs name=(je s name||decide (name∈s.ph)||(Pl.look fs name).isSome)):=rfl;have ap:Hid (0<(gA s (s.of name)).length->0<(s.of name).length):=λe=>by
  cases hq:s.of name with
  |nil=>rw[hq] at e;simp[gA] at e
  |cons x y=>simp
 have ae:Hid (pz s name=⟨name,decide (name∈s.ph),fu s (s.of name),[],gA s (s.of name)⟩):=rfl;have aw:Hid (∀a g,xS s name a g=⟨name,decide (name∈s.ph),bJ (((bK s a).nd.map λn=>dJ n g)++fu s (s.of name)) [],g,(bK s a).cs⟩):=λ_ _=>rfl;clear hV hN aU a0 aZ aW bV a4 bg aQ bc bC rN aT bk c0;generalize decide (name∈s.ph)=ph at*;generalize fu s (s.of name)=d at*;generalize gA s (s.of name)=r at*;have g0:=H.u.cell? (i:=0) rfl;have g1:=H.u.cell? (i:=1) rfl;have g2:=H.u.cell? (i:=2) rfl;have g3:=H.u.cell? (i:=3) rfl;have g4:=H.u.cell? (i:=4) rfl;have y0:=D.u.cell? (i:=0) rfl;have y1:=D.u.cell? (i:=1) rfl;have y2:=D.u.cell? (i:=2) rfl;have y3:=D.u.cell? (i:=3) rfl;have y4:=D.u.cell? (i:=4) rfl;have z0:=D.u.frozen 0;have z1:=D.u.frozen 1;have z2:=D.u.frozen 2;have z3:=D.u.frozen 3;have z4:=D.u.frozen 4;by_cases hc:r.length=0
 ·have u1:((r.length:Int)==0)=true:=by rw[UR];omega
  cases ph with
  |true=>
   have O:Hid (ea s fs z name=(⟨name,true,d,[],r⟩,true)):=by show _=_;rw[ah.u,TJ (by simp),ae.u,aa.u];simp
   clear ah ae aa aw ap;obtain⟨ph,bw⟩:∃ph,ph=true:=⟨_,rfl⟩;by_cases he:0<(s.of name).length
   ·have u2:(0:Int)<((s.of name).length:Int):=by omega
    clear hc bw ph;go_wp2_with fail
    go_region
    all_goals go_wp2_with fail
    all_goals(obtain ⟨b,C,R⟩:=sP D.u ab.u (.string ⟨name.toArray⟩) (.bool true) (.slice m d.length q) (.slice am r.length B) (.string ⟨#[]⟩))
    all_goals have P:=b.cell? (i:=0) rfl
    all_goals have Q:=b.cell? (i:=1) rfl
    all_goals have J:=b.cell? (i:=2) rfl
    all_goals have U:=b.cell? (i:=3) rfl
    all_goals have S:=b.cell? (i:=4) rfl
    all_goals refine Ua (v:= .tuple #[.agg #[.string ⟨name.toArray⟩,.bool true,.slice m d.length q,.slice am r.length B,.string ⟨#[]⟩],.bool true]) (by simp[results,results189,go_sem,P,Q,J,U,S]) rfl ?_
    all_goals rw[O.u]
    all_goals exact⟨_,_,rfl,(ad.u.bl C).bl (Bl.aL (TF _ _).drew),(af.u.bl C).bl (Bl.aL (TF _ _).drew),R.drew⟩
   ·have u2:¬(0:Int)<((s.of name).length:Int):=by omega
    clear hc bw ph;go_wp2_with fail
    go_region
    all_goals go_wp2_with fail
    all_goals(obtain ⟨b,C,R⟩:=sP D.u ab.u (.string ⟨name.toArray⟩) (.bool true) (.slice m d.length q) (.slice am r.length B) (.string ⟨#[]⟩))
    all_goals have P:=b.cell? (i:=0) rfl
    all_goals have Q:=b.cell? (i:=1) rfl
    all_goals have J:=b.cell? (i:=2) rfl
    all_goals have U:=b.cell? (i:=3) rfl
    all_goals have S:=b.cell? (i:=4) rfl
    all_goals refine Ua (v:= .tuple #[.agg #[.string ⟨name.toArray⟩,.bool true,.slice m d.length q,.slice am r.length B,.string ⟨#[]⟩],.bool true]) (by simp[results,results189,go_sem,P,Q,J,U,S]) rfl ?_
    all_goals rw[O.u]
    all_goals exact⟨_,_,rfl,(ad.u.bl C).bl (Bl.aL (TF _ _).drew),(af.u.bl C).bl (Bl.aL (TF _ _).drew),R.drew⟩
  |false=>
   have Y:=ah.u;rw[TP ⟨hc,rfl⟩] at Y;have G:=aB (CF.u V ab.u);clear ah CF;cases aJ:jE s fs name z with
   |none=>
    rw[aJ] at Y G;unfold xM at G;simp only at Y G;have O:Hid (ea s fs z name=(⟨name,false,d,[],r⟩,oJ s fs name)):=by show _=_;rw[Y,ae.u]
    clear Y ae aw ap aJ;by_cases he:0<(s.of name).length
    ·have u2:(0:Int)<((s.of name).length:Int):=by omega
     have az:oJ s fs name=true:=by rw[aa.u,a9.u,Uz he];simp
     rw[az] at O;clear hc az aa;go_wp2_with (first|(go_at_call 240;refine G.u.mono ?_;clear G;rintro e f ⟨rfl,j⟩;clear g0 g1 g2 g3 g4 y0 y1 y2 y3 y4 z0 z1 z2 z3 z4;have g0:=(H.u.aE j).cell? (i:=0) rfl;have g1:=(H.u.aE j).cell? (i:=1) rfl;have g2:=(H.u.aE j).cell? (i:=2) rfl;have g3:=(H.u.aE j).cell? (i:=3) rfl;have g4:=(H.u.aE j).cell? (i:=4) rfl;have E:=aB (D.u.aE j);have y0:=E.u.cell? (i:=0) rfl;have y1:=E.u.cell? (i:=1) rfl;have y2:=E.u.cell? (i:=2) rfl;have y3:=E.u.cell? (i:=3) rfl;have y4:=E.u.cell? (i:=4) rfl;have z0:=E.u.frozen 0;have z1:=E.u.frozen 1;have z2:=E.u.frozen 2;have z3:=E.u.frozen 3;have z4:=E.u.frozen 4;have aC:=aB (ad.u.bl (Bl.aL j));have a5:=aB (af.u.bl (Bl.aL j));have ac:=aB (ab.u.tr j);clear j)|fail)
     go_region
     all_goals go_wp2_with fail
     all_goals(obtain ⟨b,C,R⟩:=sP E.u ac.u (.string ⟨name.toArray⟩) (.bool false) (.slice m d.length q) (.slice am r.length B) (.string ⟨#[]⟩))
     all_goals have P:=b.cell? (i:=0) rfl
     all_goals have Q:=b.cell? (i:=1) rfl
     all_goals have J:=b.cell? (i:=2) rfl
     all_goals have U:=b.cell? (i:=3) rfl
     all_goals have S:=b.cell? (i:=4) rfl
     all_goals refine Ua (v:= .tuple #[.agg #[.string ⟨name.toArray⟩,.bool false,.slice m d.length q,.slice am r.length B,.string ⟨#[]⟩],.bool true]) (by simp[results,results189,go_sem,P,Q,J,U,S]) rfl ?_
     all_goals rw[O.u]
     all_goals exact⟨_,_,rfl,(aC.u.bl C).bl (Bl.aL (TF _ _).drew),(a5.u.bl C).bl (Bl.aL (TF _ _).drew),R.drew⟩
    ·have u2:¬(0:Int)<((s.of name).length:Int):=by omega
     have az:oJ s fs name=(Pl.look fs name).isSome:=by rw[aa.u,a9.u,UA he];simp
     rw[az] at O;clear hc az aa;generalize (Pl.look fs name).isSome=hs at*;go_wp2_with (first|(go_at_call 240;refine G.u.mono ?_;clear G;rintro e f ⟨rfl,j⟩;clear g0 g1 g2 g3 g4 y0 y1 y2 y3 y4 z0 z1 z2 z3 z4;have L:=aB (H.u.aE j);have E:=aB (D.u.aE j);have aC:=aB (ad.u.bl (Bl.aL j));have a5:=aB (af.u.bl (Bl.aL j));have ac:=aB (ab.u.tr j);clear j)|fail)
     have g0:=L.u.cell? (i:=0) rfl;have g1:=L.u.cell? (i:=1) rfl;have g2:=L.u.cell? (i:=2) rfl;have g3:=L.u.cell? (i:=3) rfl;have g4:=L.u.cell? (i:=4) rfl;have aY:=(F.u f ac.u).1.row;have k1:=aY.cell? (i:=1) rfl;have bQ:=aB aY;have bP:f.drew.cell? ⟨N,0,none⟩=some (.string ⟨name.toArray⟩):=g0;have b7:f.drew.cell? ⟨N,1,none⟩=some (.bool false):=g1;have bG:f.drew.cell? ⟨N,2,none⟩=some (.slice m d.length q):=g2;have bB:f.drew.cell? ⟨N,3,none⟩=some (.slice am r.length B):=g3;have b5:f.drew.cell? ⟨N,4,none⟩=some (.string ⟨#[]⟩):=g4;have b8:f.drew.cell? ⟨wk,1,none⟩=some (.pointer (some ⟨c.bx,0,none⟩)):=k1;have Z:N≠W.heap.size:=by omega
     have av:wk≠W.heap.size:=by omega
     clear aY;go_region_held_law (λi=>i.cell? ⟨N,0,none⟩=some (.string ⟨name.toArray⟩)/\i.cell? ⟨N,1,none⟩=some (.bool false)/\i.cell? ⟨N,2,none⟩=some (.slice m d.length q)/\i.cell? ⟨N,3,none⟩=some (.slice am r.length B)/\i.cell? ⟨N,4,none⟩=some (.string ⟨#[]⟩)/\i.cell? ⟨wk,1,none⟩=some (.pointer (some ⟨c.bx,0,none⟩))) (first|with_reducible exact⟨bP,b7,bG,bB,b5,b8⟩|with_reducible exact⟨l0,l1,l2,l3,l4,m1⟩|with_reducible exact⟨p0,p1,p2,p3,p4,q1⟩) (first|(go_simp;go_at_call 174;refine(CH.u _ ac.u.drew).mono ?_;rintro e A ⟨rfl,bs⟩;have I:Below f.heap.size f A:=(TF f.heap.size f).drew.trans bs;have ai:=aB (L.u.aE I);have l0:=ai.u.cell? (i:=0) rfl;have l1:=ai.u.cell? (i:=1) rfl;have l2:=ai.u.cell? (i:=2) rfl;have l3:=ai.u.cell? (i:=3) rfl;have l4:=ai.u.cell? (i:=4) rfl;have bj:=aB (bQ.u.aE I);have m1:=bj.u.cell? (i:=1) rfl;have T:=aB (E.u.aE I);have y0:=T.u.cell? (i:=0) rfl;have y1:=T.u.cell? (i:=1) rfl;have y2:=T.u.cell? (i:=2) rfl;have y3:=T.u.cell? (i:=3) rfl;have y4:=T.u.cell? (i:=4) rfl;have z0:=T.u.frozen 0;have z1:=T.u.frozen 1;have z2:=T.u.frozen 2;have z3:=T.u.frozen 3;have z4:=T.u.frozen 4;have bM:=aB (aC.u.bl (Bl.aL I));have bR:=aB (a5.u.bl (Bl.aL I));have aV:=aB (ac.u.tr I);have aj:=((((ai.u.eH Z 0 (.string ⟨name.toArray⟩)).eH Z 1 (.bool false)).eH Z 2 (.slice m d.length q)).eH Z 3 (.slice am r.length B)).eH Z 4 (.string ⟨#[]⟩);have p0:=aj.cell? (i:=0) rfl;have p1:=aj.cell? (i:=1) rfl;have p2:=aj.cell? (i:=2) rfl;have p3:=aj.cell? (i:=3) rfl;have p4:=aj.cell? (i:=4) rfl;have q1:=(((((bj.u.eH av 0 (.string ⟨name.toArray⟩)).eH av 1 (.bool false)).eH av 2 (.slice m d.length q)).eH av 3 (.slice am r.length B)).eH av 4 (.string ⟨#[]⟩)).cell? (i:=1) rfl;clear I bs aj)|fail)
     all_goals go_wp2_with fail
     all_goals(obtain ⟨b,C,R⟩:=sP T.u aV.u (.string ⟨name.toArray⟩) (.bool false) (.slice m d.length q) (.slice am r.length B) (.string ⟨#[]⟩))
     all_goals have P:=b.cell? (i:=0) rfl
     all_goals have Q:=b.cell? (i:=1) rfl
     all_goals have J:=b.cell? (i:=2) rfl
     all_goals have U:=b.cell? (i:=3) rfl
     all_goals have S:=b.cell? (i:=4) rfl
     all_goals refine Ua (v:= .tuple #[.agg #[.string ⟨name.toArray⟩,.bool false,.slice m d.length q,.slice am r.length B,.string ⟨#[]⟩],.bool hs]) (by simp[results,results189,go_sem,P,Q,J,U,S]) rfl ?_
     all_goals rw[O.u]
     all_goals exact⟨_,_,rfl,bM.u.bl C,bR.u.bl C,R⟩
   |some fx=>
    obtain⟨fi,g⟩:=fx;rw[aJ] at Y G;unfold xM at G;simp only at Y G;obtain⟨bN,ce⟩:=wM aJ;obtain⟨xx,bT,rfl⟩:=bN;have bq:=(hx xx bT).1;have bv:=qc aA bq;have O:Hid (ea s fs z name=(⟨name,false,bJ (((bK s xx.1).nd.map λn=>dJ n g)++d) [],g,(bK s xx.1).cs⟩,true)):=by show _=_;rw[Y,aw.u]
    clear Y ae aw ap aJ hc aa;generalize xx.1=fi at*;have cb :=bv.nl;have bh :=bv.nw;generalize bE:bK s fi=rr at*;unfold dh at G;go_wp2_with (first|(go_at_call 240;refine G.u.mono ?_;clear G;rintro e f ⟨rfl,j⟩;clear g0 g1 g2 g3 g4 y0 y1 y2 y3 y4 z0 z1 z2 z3 z4;have L:=aB (H.u.aE j);have E:=aB (D.u.aE j);have aC:=aB (ad.u.bl (Bl.aL j));have ac:=aB (ab.u.tr j);clear j)|fail)
    have a8:=(F.u f ac.u).1;obtain⟨vt,cc,cd,aS,-,aR,aN⟩:=a8.bm.aD fi bq;rw[bE] at aR aN;obtain⟨ar,cr,rfl⟩:=aR.sh;obtain⟨aq,cq,rfl⟩:=aN.sh;obtain⟨nb,no,aM⟩:=aR.rd;have cg:rb fi≠N:=λe=>by have q1:=aS;have q2:=L.u;unfold aG at q1 q2;rw[e,q2] at q1;cases q1
    have Z:N≠W.heap.size:=by omega
    have a1:=aS.cell? (i:=1) rfl;have a2:=L.u.cell? (i:=2) rfl;have a_:Below f.heap.size f f.drew:=(TF _ f).drew;have CS:=aB (J1 rr.nd g ar cr nb no f.drew (λe=>⟨(aM e).1,(aM e).2.1,(aM e).2.2.aL a_ (aM e).2.1⟩) (a8.fh.aE a_) (by omega) (λn hn=>⟨by have:=bh n hn;omega,by have h1:=bh n hn;have h2:=Ia n;have h3:Lib.countB ⟨n.toArray⟩ ⟨#[37]⟩*g.length<=2000*1073741824:=Nat.mul_le_mul (by omega) (by omega);omega⟩));have CQ:Hid (∀A u6,Below f.heap.size f A->fF A u6 (rr.nd.map λn=>dJ n g)->Calls prog 230 #[.slice (some ⟨A.heap.size,0,none⟩) 2 2] (A.alloc (.cells #[u6,.slice m d.length q] 30)) λe i=>∃u,e= .returned u/\fF i u (bJ (((rr.nd.map λn=>dJ n g))++d) [])/\Below f.heap.size f i):=λA u6 bd bS=>by
     have b2:=(TF A.heap.size A).alloc ak (.cells #[u6,.slice m d.length q] 30);have bp:[(rr.nd.map λn=>dJ n g),d].flatten=(rr.nd.map λn=>dJ n g)++d:=by simp
     have hC:=zH [(rr.nd.map λn=>dJ n g),d] (some ⟨A.heap.size,0,none⟩) 2 A.heap.size 0 (A.alloc (.cells #[u6,.slice m d.length q] 30)) (λ_=>⟨rfl,by simp,λbU x hj=> ?_⟩) (by simp) (by rw[bp,TE,TR];omega)
     ·rw[bp] at hC;refine hC.mono ?_;rintro e i ⟨u,rfl,ho,hb⟩;have e1:=TM A (.cells #[u6,.slice m d.length q] 30);exact⟨u,rfl,fF.bI ho,(bd.tr b2).trans (hb.mono (by have:=bd.size;omega))⟩
     ·have bo:=aG.bA A 30 [u6,.slice m d.length q]
      match bU,hj with
      |0,hj=>cases hj;exact⟨_,bo.cell? (i:=0) rfl,(bS.bl (Bl.aL b2)).rP⟩
      |1,hj=>cases hj;exact⟨_,bo.cell? (i:=1) rfl,((aC.u.bl (Bl.aL bd)).bl (Bl.aL b2)).rP⟩
    have bH:=aB aS;have b9:=aB aN;clear a8 aS aR aN aM a_;go_region_law (first|(go_simp;go_at_call 241;refine CS.u.mono ?_;rintro e A ⟨u6,rfl,a',bu⟩;have I:Below f.heap.size f A:=(TF f.heap.size f).drew.trans bu;have c2:=(L.u.aE I).cell? (i:=2) rfl;have bX:Hid (fF A u6 (rr.nd.map λn=>dJ n g)):=fF.bI (by rw[TR,WT];exact a');have aV:=aB I;obtain⟨a6,c6,rfl⟩:=gL a';clear a' bu I)|(go_simp;go_at_call 230;refine(CQ.u A _ aV.u bX.u).mono ?_;rintro e w6 ⟨u7,rfl,be,al⟩;have K:=aB (L.u.aE al);have bF:=aB (bH.u.aE al);have M:=aB (E.u.aE al);have bW:=aB (b9.u.bl (Bl.aL al));have b6:=aB be;obtain⟨a7,c7,rfl⟩:=be.sh;have bY:=aB (ac.u.tr al);have i0:=K.u.cell? (i:=0) rfl;have i1:=K.u.cell? (i:=1) rfl;have i2:=K.u.cell? (i:=2) rfl;have i3:=K.u.cell? (i:=3) rfl;have i4:=K.u.cell? (i:=4) rfl;have f2:=K.u.frozen 2;have f3:=K.u.frozen 3;have f4:=K.u.frozen 4;have j2:=bF.u.cell? (i:=2) rfl;have y0:=M.u.cell? (i:=0) rfl;have y1:=M.u.cell? (i:=1) rfl;have y2:=M.u.cell? (i:=2) rfl;have y3:=M.u.cell? (i:=3) rfl;have y4:=M.u.cell? (i:=4) rfl;have z0:=M.u.frozen 0;have z1:=M.u.frozen 1;have z2:=M.u.frozen 2;have z3:=M.u.frozen 3;have z4:=M.u.frozen 4;clear be al)|fail)
    all_goals go_wp2_with fail
    all_goals have bZ:=((M.u.eH Z.symm 2 (.slice a7 (bJ (List.map (λn=>dJ n g) rr.nd++d) []).length c7)).eH Z.symm 3 (.slice aq rr.cs.length cq)).eH Z.symm 4 (.string ⟨g.toArray⟩)
    all_goals have b3:=((bY.u.setCell (p:=⟨N,2,none⟩) (VA aO) (.slice a7 (bJ (List.map (λn=>dJ n g) rr.nd++d) []).length c7)).setCell (p:=⟨N,3,none⟩) (VA aO) (.slice aq rr.cs.length cq)).setCell (p:=⟨N,4,none⟩) (VA aO) (.string ⟨g.toArray⟩)
    all_goals have bz:=((Au (o:=2) K.u (.slice a7 (bJ (List.map (λn=>dJ n g) rr.nd++d) []).length c7)).trans (Au (o:=3) (K.u.set 2 _) (.slice aq rr.cs.length cq))).trans (Au (o:=4) ((K.u.set 2 _).set 3 _) (.string ⟨g.toArray⟩))
    all_goals(obtain ⟨b,C,R⟩:=sP bZ b3 (.string ⟨name.toArray⟩) (.bool false) (.slice a7 (bJ (List.map (λn=>dJ n g) rr.nd++d) []).length c7) (.slice aq rr.cs.length cq) (.string ⟨g.toArray⟩))
    all_goals have P:=b.cell? (i:=0) rfl
    all_goals have Q:=b.cell? (i:=1) rfl
    all_goals have J:=b.cell? (i:=2) rfl
    all_goals have U:=b.cell? (i:=3) rfl
    all_goals have S:=b.cell? (i:=4) rfl
    all_goals refine Ua (v:= .tuple #[.agg #[.string ⟨name.toArray⟩,.bool false,.slice a7 (bJ (List.map (λn=>dJ n g) rr.nd++d) []).length c7,.slice aq rr.cs.length cq,.string ⟨g.toArray⟩],.bool true]) (by simp[results,results189,go_sem,P,Q,J,U,S]) rfl ?_
    all_goals rw[O.u]
    all_goals exact⟨_,_,rfl,(b6.u.bl bz).bl C,(bW.u.bl bz).bl C,R⟩
 ·have u1:((r.length:Int)==0)=false:=by rw[TQ];omega
  have b1:=ap.u (by omega);have u2:(0:Int)<((s.of name).length:Int):=by omega
  have O:Hid (ea s fs z name=(⟨name,ph,d,[],r⟩,true)):=by show _=_;rw[ah.u,TJ (λe=>hc e.1),ae.u,aa.u,a9.u,Uz b1];simp
  clear ah ae aa aw ap hc;go_wp2_with fail
  go_region
  all_goals go_wp2_with fail
  all_goals(obtain ⟨b,C,R⟩:=sP D.u ab.u (.string ⟨name.toArray⟩) (.bool ph) (.slice m d.length q) (.slice am r.length B) (.string ⟨#[]⟩))
  all_goals have P:=b.cell? (i:=0) rfl
  all_goals have Q:=b.cell? (i:=1) rfl
  all_goals have J:=b.cell? (i:=2) rfl
  all_goals have U:=b.cell? (i:=3) rfl
  all_goals have S:=b.cell? (i:=4) rfl
  all_goals refine Ua (v:= .tuple #[.agg #[.string ⟨name.toArray⟩,.bool ph,.slice m d.length q,.slice am r.length B,.string ⟨#[]⟩],.bool true]) (by simp[results,results189,go_sem,P,Q,J,U,S]) rfl ?_
  all_goals rw[O.u]
  all_goals exact⟨_,_,rfl,(ad.u.bl C).bl (Bl.aL (TF _ _).drew),(af.u.bl C).bl (Bl.aL (TF _ _).drew),R.drew⟩
end
