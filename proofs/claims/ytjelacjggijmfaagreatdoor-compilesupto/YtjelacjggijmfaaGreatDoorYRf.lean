/- . -/
import Derived.RangeFuncNested
import Derived.RangeFuncBound
import Derived.Test.YtjelacjggijmfaaGreatDoorYA
namespace Go.Mk
open Pl Mk Cp Proofs.Tryz
open RowKit
variable {b:Ending->ax->Prop}{a:Nat}{d:Array ay}{e:Code}
section
variable {P:Program}
theorem B_ {n m:Nat}{f:FuncId}{args:Array ay}{w:ax}(h:CallsIn Fence.wide n P f args w b):CallsIn Fence.wide m P f args w b:=Wq.2 (Wq.1 h)
theorem Cc {n m:Nat}{f:FuncId}{assign:Code}{w:ax}(h:RoundIn Fence.wide n P a f d assign e w b):RoundIn Fence.wide m P a f d assign e w b:=⟨h.1,λc g _=>h.2 c g (room_wide _)⟩
theorem Du {n m k:Nat}{f:FuncId}{assign:Code}{w:ax}(h:RoundIn Fence.wide n P a f d assign e w b):RoundIn (Fence.wide.inRound k) m P a f d assign e w b:=Cc h
def xQ {α:Type}(P:Program)(j:Nat)(k:Array ay)(i:α->Array ay)(h:Nat->ax->ax->Prop)(L:List α)(w:ax):Prop:=
 ∀(c:Nat) (d g:List α->ax->Prop) (W:ax),c<W.heap.size->Below w.heap.size w W->OwnFrom W.heap.size d->OwnFrom W.heap.size g->
  (∀b x post f,L=b++x::post->d b f->YieldAt Fence.wide 9 P c (i x) f λe a=>(e= .returned (.bool true)/\d (b++[x]) a /\h c f a)\/(e= .returned (.bool false)/\g (b++[x]) a /\h c f a))->
  d [] W->
  CallsIn Fence.wide 9 P j (#[.func (.yield c) #[] #[]]++k) W λe a=>(∃v,e= .returned v)/\(d L a \/∃b post,L=b++post/\g b a)
theorem DG {β:Type}{B:Nat}{c:β->ax->Prop}(h:OwnFrom B c)(i:B<=a):OwnFrom a c:=λs X Y row g f b=>h s X Y row g f (λd e=>⟨TT i (b d e).1,(b d e).2⟩)
theorem same_below {X Y:ax}{row:Option Nat}{B k:Nat}{a:Obj}(d:X.grownBy Y row)(c:∀b,row=some b->B<=b)(f:k<B)(h:X.heap[k]?=some a):Y.heap[k]?=some a:=(d.block k (TN.1 h).1 (λe=>by have:=c k e.symm;omega)).trans h
def Dv {α:Type}(B:Nat)(c:ax->ax->Prop)(e:List α->ax->Prop)(d:Code->List α->ax->Prop)(b:List α)(W:ax):Exit->Act->ax->Prop
 | .normal,_,a=>KeepsFrom B W a /\c W a /\e b a
 | .ret,_,a=>KeepsFrom B W a /\c W a /\d .ret b a
 | .exit id,_,a=>KeepsFrom B W a /\c W a /\d (.exit id) b a
 | .goto f,_,a=>KeepsFrom B W a /\c W a /\d (.goto f) b a
 | .panic _,_,_=>False
 | .outgrown,_,_=>False
theorem Nn {α:Type}{an:Operand}{ps:Array Tmp}{assign body:Code}{Q:Exit->Act->ax->Prop}{a:Act}{w:ax}{gf:Nat}{lb:Array ay}(hg:a.eval an= .func (.func gf) #[] lb)(eg:∀args w,(callFunc gf args).run P w= .ok (.enter gf args) w){aa:α->Array ay}{j:Nat->ax->ax->Prop}{L:List α}{w0:ax}(aw:xQ P gf lb aa j L w0)(M:∀{i:Nat} {A B ar:ax},j i A B->j i B ar->j i A ar)(af:∀(W:ax) (i:Nat) (aq o' :Obj),w.heap.size<=i->W.heap[i]?=some aq->aq.isCells=false->j i W (W.putObj i o'))(ag:Below w0.heap.size w0 w)(aA:∀x,(aa x).size=ps.size)(z:List α->ax->Prop)(T:Code->List α->ax->Prop)(N:OwnFrom w.heap.size z)(aj:∀c,OwnFrom w.heap.size (T c))(h0:z [] w)(Ax:α->Act->ax->Prop)(aH:∀x n,OwnFrom w.heap.size (λ(_:Unit) W=>Ax x n W))(aL:∀(i:Nat) (b:List α) (x:α) (post:List α) (W:ax) (K:Act->ax->Prop),L=b++x::post->z b W->
  (∀n q,KeepsFrom w.heap.size W q ->j i W q ->z b q ->Ax x n q ->K n q)->
  assign.wpIn (Fence.wide.inRound i) 9 P (Exit.then K (λ_ _ _=>False)) {tmps:=(ps.zip (aa x)).foldl (λam (ac,v)=>am.setIfInBounds ac v) a.tmps,defers:=[]} W)(aJ:∀(i:Nat) (b:List α) (x:α) (post:List α) (n :Act) (W:ax),L=b++x::post->z b W->Ax x n W->
  body.wpIn (Fence.wide.inRound i) 9 P (Dv w.heap.size (j i) z T (b++[x]) W) n W)(aP:∀(D:Nat) (W:ax),w.heap.size<=D->z L W->W.heap[D]?=some (.deferred (some []))->Q .normal {a with defers:={target:= .collected D,args:= #[]}::a.defers} W)(aM:∀(D:Nat) (c:Code) (b post:List α) (W:ax),w.heap.size<=D->L=b++post->T c b W->W.heap[D]?=some (.deferred (some []))->
  c.wpIn Fence.wide 9 P Q {a with defers:={target:= .collected D,args:= #[]}::a.defers} W):
 (Code.rangeFunc an ps assign body).wpIn Fence.wide 9 P Q a w:=by
 refine wpIn_rangeFunc λfn aN=> ?_;obtain⟨k,o⟩:∃k:LoopState->Option Code->Loop,∀s ac,k s ac={state:=s,pending:=ac,fn:=fn,tmps:=a.tmps,params:=ps,assign:=assign,body:=body,defers:=w.heap.size}:=⟨_,λ_ _=>rfl⟩;obtain⟨V,J⟩:∃V,V=(w.alloc (.deferred (some []))).alloc (.loop (k .ready none)):=⟨_,rfl⟩;have aW:V.heap.size=w.heap.size+2:=by rw[J];simp
 have aG:V.heap[w.heap.size+1]?=some (.loop (k .ready none)):=by have:=WK (w.alloc (.deferred (some []))) (.loop (k .ready none));rw[TM] at this;rw[J];exact this
 have aF:V.heap[w.heap.size]?=some (.deferred (some [])):=by rw[J];exact(VU _ _ _ (by simp)).trans (WK w _)
 obtain⟨F,Z⟩:∃F:List α->ax->Prop,F=λb W=>z b W/\W.heap[w.heap.size+1]?=some (.loop (k .ready none))/\W.heap[w.heap.size]?=some (.deferred (some [])):=⟨_,rfl⟩;obtain⟨R,ah⟩:∃R:List α->ax->Prop,R=λb W=>∃c,T c b W/\W.heap[w.heap.size+1]?=some (.loop (k .done (some c)))/\W.heap[w.heap.size]?=some (.deferred (some [])):=⟨_,rfl⟩;have aD:OwnFrom V.heap.size F:=by
  rw[Z];rintro s X Y row ⟨r,m,t⟩ H u;have I :∀f,row=some f->w.heap.size+2<=f:=λf e=>by have:=(u f e).1;omega
  exact⟨N s X Y row r H (λf e=>⟨by have:=I f e;omega,(u f e).2⟩),same_below H I (by omega) m,same_below H I (by omega) t⟩
 have aI:OwnFrom V.heap.size R:=by
  rw[ah];rintro s X Y row ⟨c,r,m,t⟩ H u;have I :∀f,row=some f->w.heap.size+2<=f:=λf e=>by have:=(u f e).1;omega
  exact⟨c,aj c s X Y row r H (λf e=>⟨by have:=I f e;omega,(u f e).2⟩),same_below H I (by omega) m,same_below H I (by omega) t⟩
 have aQ:Below w0.heap.size w0 V:=by rw[J];exact(ag.alloc ag.size _).alloc (by have:=ag.size;simp;omega) _
 have aS:F [] V:=by rw[Z];exact⟨by rw[J];exact N.alloc _ (N.alloc _ h0),aG,aF⟩
 have aV:∀b x post C,L=b++x::post->F b C->YieldAt Fence.wide 9 P (w.heap.size+1) (aa x) C λe q=>
  (e= .returned (.bool true)/\F (b++[x]) q /\j (w.heap.size+1) C q)\/(e= .returned (.bool false)/\R (b++[x]) q /\j (w.heap.size+1) C q):=by
  intro b x post C hL hj;rw[Z] at hj;obtain⟨r,m,t⟩:=hj;have hy:=run_yield (P:=P) (args:=aa x) m (by rw[o];exact aA x);simp only[o] at hy;refine⟨fn,_,assign,body,hy,roundIn_of_wpIn aN (aL _ b x post C _ hL r ?_)⟩;intro n W2 au al aK av;have ab:=au.same _ _ (by omega) m rfl;have az:=au.same _ _ ak t rfl;refine⟨_,run_beginRound ab (by rw[o]),?_⟩;obtain⟨p,O⟩:∃p,p=W2.putObj (w.heap.size+1) (.loop {k .ready none with state:= .busy}):=⟨_,rfl⟩;rw[<-O];have aE:=(TN.1 ab).1;have aO:p.heap[w.heap.size+1]?=some (.loop {k .ready none with state:= .busy}):=by rw[O];exact Xs aE
  have aT:p.heap[w.heap.size]?=some (.deferred (some [])):=by rw[O];exact(Vb (by omega)).trans az
  have ao:j (w.heap.size+1) W2 p:=by rw[O];exact af _ _ _ _ (by omega) ab rfl
  have aB:z b p:=by rw[O];exact N.putObj _ aK (by omega) ab rfl
  have aR:Ax x n p:=by rw[O];exact(aH x n).putObj (s:=()) _ av (by omega) ab rfl
  refine wpIn_mono (aJ _ b x post n p hL aB aR) ?_;have ap:∀(E:Option Code) (d:ax),KeepsFrom w.heap.size p d->∃g,(Instr.endRound (w.heap.size+1) E).run P d= .ok (.bool E.isNone) g/\
   g=d.putObj (w.heap.size+1) (.loop (k (if E.isNone then .ready else .done) E))/\d.heap[w.heap.size+1]?=some (.loop {k .ready none with state:= .busy})/\
   g.heap[w.heap.size+1]?=some (.loop (k (if E.isNone then .ready else .done) E))/\g.heap[w.heap.size]?=some (.deferred (some [])):=by
   intro E d S;have y:=S.same _ _ (by omega) aO rfl;have aC:=S.same _ _ ak aT rfl;have G:=run_endRound (P:=P) E y;simp only[o] at G;refine⟨_,G,by simp only[o],y,?_,?_⟩
   ·simp only[o];exact Xs (TN.1 y).1
   ·exact(Vb (by omega)).trans aC
  have stop:∀(c:Code) (d:ax),KeepsFrom w.heap.size p d->j (w.heap.size+1) p d->T c (b++[x]) d->∃v g,(Instr.endRound (w.heap.size+1) (some c)).run P d= .ok v g/\
   ((Ending.returned v= .returned (.bool true)/\F (b++[x]) g/\j (w.heap.size+1) C g)\/(Ending.returned v= .returned (.bool false)/\R (b++[x]) g/\j (w.heap.size+1) C g)):=by
   intro c d S ai hx;obtain⟨g,u,U,y,ae,ad⟩:=ap (some c) d S;exact⟨_,g,u,.inr ⟨rfl,by rw[ah];exact⟨c,by rw[U];exact(aj c).putObj _ hx (by omega) y rfl,ae,ad⟩,M al (M ao (M ai (by rw[U];exact af _ _ _ _ (by omega) y rfl)))⟩⟩
  rintro e a4 d l;cases e with
  |normal=>obtain⟨S,ai,aU⟩:=l;obtain⟨g,u,U,y,ae,ad⟩:=ap none d S;refine⟨_,g,u,.inl ⟨rfl,by rw[Z];exact⟨by rw[U];exact N.putObj _ aU (by omega) y rfl,ae,ad⟩,?_⟩⟩;exact M al (M ao (M ai (by rw[U];exact af _ _ _ _ (by omega) y rfl)))|ret=>exact stop _ d l.1 l.2.1 l.2.2
  |exit id=>exact stop _ d l.1 l.2.1 l.2.2
  |goto am=>exact stop _ d l.1 l.2.1 l.2.2
  |panic ch=>exact l.elim
  |outgrown=>exact l.elim
 refine⟨w.heap.size+1,[{target:= .collected w.heap.size,args:= #[]}],V,{target:= .fn (.func gf) lb,args:= #[.func (.yield (w.heap.size+1)) #[] #[]]},V,gf,
  #[.func (.yield (w.heap.size+1)) #[] #[]]++lb,V,?_,?_,λ_ _=>trivial,?_,λh=>by simp[Fence.wide] at h,?_⟩
 ·rw[J,o];exact run_enterLoop_outer _ _ _ _ _
 ·simp only[resolve,hg];simp[go_sem]
 ·simp[invoke,go_sem,eg]
 ·refine(B_ (aw (w.heap.size+1) F R V (by omega) aQ aD aI aV aS)).mono ?_;rintro e W2 ⟨⟨v,rfl⟩,h|⟨b,post,hL,h⟩⟩
  ·rw[Z] at h;obtain⟨r,m,t⟩:=h;have G:=aaW (P:=P) m (by rw[o];simp);simp only[o] at G;exact⟨none,_,G,aP _ _ ak (N.putObj _ r (by omega) m rfl) ((Vb (by omega)).trans t)⟩
  ·rw[ah] at h;obtain⟨c,r,m,t⟩:=h;have G:=aaW (P:=P) m (by rw[o];simp);simp only[o] at G;exact⟨some c,_,G,aM _ c b post _ ak hL ((aj c).putObj _ r (by omega) m rfl) ((Vb (by omega)).trans t)⟩
end
