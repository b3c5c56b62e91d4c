/- . -/
import Derived.Test.YtjelacjggijmfaaGreatDoorYA
import Derived.RangeFuncNested
import Derived.RangeFuncBound
import Derived.Test.YtjelacjggijmfaaGreatDoorChecked
import Derived.WalkSpells
import Derived.WalkLawsBesides
import Derived.Lib.Strings
import Derived.Deep.OwnRows
import Derived.Sort.AtCall
import Derived.BigQuiet
set_option linter.all false
set_option maxHeartbeats 400000
namespace Go.Proofs.YtjelacjggijmfaaGreatDoor
open Pl Mk Cp Proofs.Tryz
section
variable {b:Ending->ay->Prop}{a c i g:Nat}{e:hZ}{d k:Code}{P:Program}{j l:ay}{o:FuncId}
namespace Mk
open RowKit
section
def EY(h:CallsIn Fence.wide a P o e j b):CallsIn Fence.wide c P o e j b:=Zm.2 (Zm.1 h)
def xY(h:RoundIn Fence.wide c P a o e k d j b):RoundIn Fence.wide i P a o e k d j b:=⟨h.1,λm g _=>h.2 m g (room_wide _)⟩
def FU(h:RoundIn Fence.wide c P a o e k d j b):RoundIn (Fence.wide.inRound g) i P a o e k d j b:=xY h
def xE{α:Type}(P:Program)(j:Nat)(k:hZ)(i:α->hZ)(h:Nat->ay->ay->Prop)(L:List α)(w:ay):Prop:=
 ∀(d:Nat) (c g:List α->ay->Prop) (W:ay),d<W.heap.size->μ w W->OwnFrom W.heap.size c->OwnFrom W.heap.size g->
  (∀a x l f,L=a++x::l->c a f->YieldAt Fence.wide 9 P d (i x) f λe b=>(e=.returned (.bool true)/\c (a++[x]) b /\h d f b)\/(e=.returned (.bool false)/\g (a++[x]) b /\h d f b))->
  c [] W->
  CallsIn Fence.wide 9 P j (#[.func (.yield d) #[] #[]]++k) W λe b=>(∃v,e=.returned v)/\(c L b \/∃a l,L=a++l/\g a b)
def F6{β:Type}{d:β->ay->Prop}(h:OwnFrom c d)(i:c<=a):OwnFrom a d:=λs X Y j f g B=>h s X Y j f g (λb e=>⟨Ye i (B b e).1,(B b e).2⟩)
def same_below{g:ib}{b:Obj}(d:j.grownBy l g)(B:∀a,g=some a->c<=a)(f:i<c)(h:j.heap[i]?=some b):l.heap[i]?=some b:=(d.block i (X8.1 h).1 (λe=>by have:=B i e.symm;omega)).trans h
def FV{α:Type}(B:Nat)(b:ay->ay->Prop)(f:List α->ay->Prop)(d:Code->List α->ay->Prop)(c:List α)(W:ay):Exit->Act->ay->Prop
 | .normal,_,a=>KeepsFrom B W a /\b W a /\f c a
 | .ret,_,a=>KeepsFrom B W a /\b W a /\d .ret c a
 | .exit id,_,a=>KeepsFrom B W a /\b W a /\d (.exit id) c a
 | .goto e,_,a=>KeepsFrom B W a /\b W a /\d (.goto e) c a
 | .panic _,_,_=>False
 | .outgrown,_,_=>False
def Ba{α:Type}{an:Operand}{ps:Array Tmp}{Q:Exit->Act->ay->Prop}{a:Act}{gf:Nat}{lb:hZ}(hg:a.eval an=.func (.func gf) #[] lb)(eg:∀args j,(callFunc gf args).run P j=.ok (.enter gf args) j){aa:α->hZ}{body:Nat->ay->ay->Prop}{L:List α}(aO:xE P gf lb aa body L l)(R:∀{i:Nat} {A B am:ay},body i A B->body i B am->body i A am)(ae:∀(W:ay) (i:Nat) (aj o':Obj),j.heap.size<=i->W.heap[i]?=some aj->aj.isCells=false->body i W (W.putObj i o'))(af:μ l j)(aI:∀x,(aa x).size=ps.size)(r:List α->ay->Prop)(Ix:Code->List α->ay->Prop)(S:OwnFrom j.heap.size r)(ac:∀c,OwnFrom j.heap.size (Ix c))(h0:r [] j)(Ax:α->Act->ay->Prop)(aR:∀x p,OwnFrom j.heap.size (λ(_:Unit) W=>Ax x p W))(aF:∀(i:Nat) (b:List α) (x:α) (post:List α) (W:ay) (K:Act->ay->Prop),L=b++x::post->r b W->
  (∀p q,KeepsFrom j.heap.size W q ->body i W q ->r b q ->Ax x p q ->K p q)->
  d.wpIn (Fence.wide.inRound i) 9 P (Exit.then K (λ_ _ _=>False)) {tmps:=(ps.zip (aa x)).foldl (λaq (ab,v)=>aq.setIfInBounds ab v) a.tmps,defers:=[]} W)(aA:∀(i:Nat) (b:List α) (x:α) (post:List α) (p:Act) (W:ay),L=b++x::post->r b W->Ax x p W->
  k.wpIn (Fence.wide.inRound i) 9 P (FV j.heap.size (body i) r Ix (b++[x]) W) p W)(aE:∀(D:Nat) (W:ay),j.heap.size<=D->r L W->W.heap[D]?=some (.deferred (some []))->Q .normal {a with defers:={target:=.collected D,args:= #[]}::a.defers} W)(aS:∀(D:Nat) (c:Code) (b post:List α) (W:ay),j.heap.size<=D->L=b++post->Ix c b W->W.heap[D]?=some (.deferred (some []))->
  c.wpIn Fence.wide 9 P Q {a with defers:={target:=.collected D,args:= #[]}::a.defers} W):
 (Code.rangeFunc an ps d k).wpIn Fence.wide 9 P Q a j:=by
 refine wpIn_rangeFunc λfn aL=>?_;obtain⟨w,o⟩:∃w:LoopState->Option Code->Loop,∀s ab,w s ab={state:=s,pending:=ab,fn:=fn,tmps:=a.tmps,params:=ps,assign:=d,body:=k,defers:=j.heap.size}:=⟨_,λ_ _=>rfl⟩;obtain⟨V,O⟩:∃V,V=(j.alloc (.deferred (some []))).alloc (.loop (w .ready none)):=⟨_,rfl⟩;have aV:V.heap.size=j.heap.size+2:=by rw[O];simp
 have aT:V.heap[j.heap.size+1]?=some (.loop (w .ready none)):=by have:=H5 (j.alloc (.deferred (some []))) (.loop (w .ready none));rw[X_]at this;rw[O];exact this
 have aQ:V.heap[j.heap.size]?=some (.deferred (some [])):=by rw[O];exact(Z0 _ _ _ (by simp)).trans (H5 j _)
 obtain⟨E,T⟩:∃E:List α->ay->Prop,E=λb W=>r b W/\W.heap[j.heap.size+1]?=some (.loop (w .ready none))/\W.heap[j.heap.size]?=some (.deferred (some [])):=⟨_,rfl⟩;obtain⟨J,ah⟩:∃J:List α->ay->Prop,J=λb W=>∃c,Ix c b W/\W.heap[j.heap.size+1]?=some (.loop (w .done (some c)))/\W.heap[j.heap.size]?=some (.deferred (some [])):=⟨_,rfl⟩;have aN:OwnFrom V.heap.size E:=by
  rw[T];rintro s X Y row⟨u,w0,y⟩I z;have H:∀f,row=some f->j.heap.size+2<=f:=λf e=>by have:=(z f e).1;omega
  exact⟨S s X Y row u I (λf e=>⟨by have:=H f e;omega,(z f e).2⟩),same_below I H (by omega) w0,same_below I H (by omega) y⟩
 have aG:OwnFrom V.heap.size J:=by
  rw[ah];rintro s X Y row⟨c,u,w0,y⟩I z;have H:∀f,row=some f->j.heap.size+2<=f:=λf e=>by have:=(z f e).1;omega
  exact⟨c,ac c s X Y row u I (λf e=>⟨by have:=H f e;omega,(z f e).2⟩),same_below I H (by omega) w0,same_below I H (by omega) y⟩
 have aw:μ l V:=by rw[O];exact(af.alloc af.size _).alloc (by have:=af.size;simp;omega) _
 have av:E [] V:=by rw[T];exact⟨by rw[O];exact S.alloc _ (S.alloc _ h0),aT,aQ⟩
 have aB:∀b x post G,L=b++x::post->E b G->YieldAt Fence.wide 9 P (j.heap.size+1) (aa x) G λe q=>
  (e=.returned (.bool true)/\E (b++[x]) q/\body (j.heap.size+1) G q)\/(e=.returned (.bool false)/\J (b++[x]) q/\body (j.heap.size+1) G q):=by
  intro b x post G hL hj;rw[T]at hj;have⟨u,w0,y⟩:=hj;have hy:=run_yield (P:=P) (args:=aa x) w0 (by rw[o];exact aI x);simp only[o]at hy;refine⟨fn,_,d,k,hy,roundIn_of_wpIn aL (aF _ b x post G _ hL u ?_)⟩;intro p W2 ap ak au aJ;have Z:=ap.same _ _ (by omega) w0 rfl;refine⟨_,run_beginRound Z (by rw[o]),?_⟩;obtain⟨n,N⟩:∃n,n=W2.putObj (j.heap.size+1) (.loop {w .ready none with state:=.busy}):=⟨_,rfl⟩;rw[<-N];have aH:n.heap[j.heap.size+1]?=some (.loop {w .ready none with state:=.busy}):=by rw[N];exact abT ((X8.1 Z).1)
  have ar:n.heap[j.heap.size]?=some (.deferred (some [])):=by rw[N];exact(Zo (by omega)).trans (ap.same _ _ ax y rfl)
  have ao:body (j.heap.size+1) W2 n:=by rw[N];exact ae _ _ _ _ (by omega) Z rfl
  have aU:r b n:=by rw[N];exact S.putObj _ au (by omega) Z rfl
  have aP:Ax x p n:=by rw[N];exact(aR x p).putObj (s:=()) _ aJ (by omega) Z rfl
  refine wpIn_mono (aA _ b x post p n hL aU aP) ?_;have al:∀(C:Option Code) (assign:ay),KeepsFrom j.heap.size n assign->∃g,(Instr.endRound (j.heap.size+1) C).run P assign=.ok (.bool C.isNone) g/\
   g=assign.putObj (j.heap.size+1) (.loop (w (if C.isNone then .ready else .done) C))/\assign.heap[j.heap.size+1]?=some (.loop {w .ready none with state:=.busy})/\
   g.heap[j.heap.size+1]?=some (.loop (w (if C.isNone then .ready else .done) C))/\g.heap[j.heap.size]?=some (.deferred (some [])):=by
   intro C assign M;have t:=M.same _ _ (by omega) aH rfl;have F:=run_endRound (P:=P) C t;simp only[o]at F;refine⟨_,F,by simp only[o],t,?_,?_⟩
   ·simp only[o];exact abT (X8.1 t).1
   exact(Zo (by omega)).trans (M.same _ _ ax ar rfl)
  have stop:∀(c:Code) (assign:ay),KeepsFrom j.heap.size n assign->body (j.heap.size+1) n assign->Ix c (b++[x]) assign->∃v g,(Instr.endRound (j.heap.size+1) (some c)).run P assign=.ok v g/\
   ((Ending.returned v=.returned (.bool true)/\E (b++[x]) g/\body (j.heap.size+1) G g)\/(Ending.returned v=.returned (.bool false)/\J (b++[x]) g/\body (j.heap.size+1) G g)):=by
   intro c assign M ai hx;have⟨g,z,U,t,ag,ad⟩:=al (some c) assign M;exact⟨_,g,z,.inr ⟨rfl,by rw[ah];exact⟨c,by rw[U];exact(ac c).putObj _ hx (by omega) t rfl,ag,ad⟩,R ak (R ao (R ai (by rw[U];exact ae _ _ _ _ (by omega) t rfl)))⟩⟩
  rintro e a4 assign m;cases e with
  |normal=>have⟨M,ai,aD⟩:=m;have⟨g,z,U,t,ag,ad⟩:=al none assign M;refine⟨_,g,z,.inl ⟨rfl,by rw[T];exact⟨by rw[U];exact S.putObj _ aD (by omega) t rfl,ag,ad⟩,?_⟩⟩;exact R ak (R ao (R ai (by rw[U];exact ae _ _ _ _ (by omega) t rfl)))|ret=>exact stop _ assign m.1 m.2.1 m.2.2
  |exit id=>exact stop _ assign m.1 m.2.1 m.2.2
  |goto aq=>exact stop _ assign m.1 m.2.1 m.2.2
  |panic ch=>exact m.elim
  |outgrown=>exact m.elim
 refine⟨j.heap.size+1,[{target:=.collected j.heap.size,args:= #[]}],V,{target:=.fn (.func gf) lb,args:= #[.func (.yield (j.heap.size+1)) #[] #[]]},V,gf,
  #[.func (.yield (j.heap.size+1)) #[] #[]]++lb,V,?_,?_,λ_ _=>trivial,?_,λh=>by simp[Fence.wide]at h,?_⟩
 ·rw[O,o];exact run_enterLoop_outer _ _ _ _ _
 ·simp only[resolve,hg];simp[go_sem]
 ·simp[invoke,go_sem,eg]
 refine(EY (aO (j.heap.size+1) E J V (by omega) aw aN aG aB av)).mono ?_;rintro e W2⟨⟨v,rfl⟩,h|⟨b,post,hL,h⟩⟩
 ·rw[T]at h;have⟨u,w0,y⟩:=h;have F:=afE (P:=P) w0 (by rw[o];simp);simp only[o]at F;exact⟨none,_,F,aE _ _ ax (S.putObj _ u (by omega) w0 rfl) ((Zo (by omega)).trans y)⟩
 rw[ah]at h;have⟨c,u,w0,y⟩:=h;have F:=afE (P:=P) w0 (by rw[o];simp);simp only[o]at F;exact⟨some c,_,F,aS _ c b post _ ax hL ((ac c).putObj _ u (by omega) w0 rfl) ((Zo (by omega)).trans y)⟩
end



end Mk
end
section
variable {g:Nat}{i:aj}
namespace Pl
abbrev Bs:=hU
abbrev Aw:=Nat->ib
def two(c:Bs)(a:Nat):Nat:=256*(c.getD a 0).toNat+(c.getD (a+1) 0).toNat
def jt(a:Nat):Nat:=if a=1\/a=4\/a=8 then 2 else if a=2\/a=6\/a=7 then 3 else if a=3 then 5 else if a=5 then 1 else 0
structure gO where
 op:Nat
 bp:Nat
 next:Nat
 first:Nat
 pN:Nat
def opAt(c:Bs)(a:Nat):Nat:=(c.getD a 0).toNat
def bH(c:Bs)(a:Nat):gO:=⟨opAt c a,a,a+jt (opAt c a),if jt (opAt c a)=1 then 0 else if jt (opAt c a)=2 then opAt c (a+1) else two c (a+1),if jt (opAt c a)=5 then two c (a+3) else 0⟩
def cU(c:Bs)(a:Nat):Prop:=jt (opAt c a)≠0/\a+jt (opAt c a)<=c.length
def oX(m:Nat)(a:gO):Prop:=(a.op=1->a.first<=1)/\(a.op=2\/a.op=7->a.first<m)/\(a.op=3->a.first<m/\a.pN<m)
def ig(a:Nat):Nat:=if a=5 then 2 else if a=6 then 1 else 0
def ny(a:Nat):Nat:=if a=1\/a=2\/a=3\/a=4\/a=5 then 1 else 0
def eX(a h:Nat):Nat:=h-ig a+ny a
def del(A:Aw)(a:Nat):Aw:=λq=>if q=a then none else A q
def put(A:Aw)(a h:Nat):Aw:=λq=>if q=a then some h else A q
def n_(A:Aw)(a h:Nat):Prop:=∀q,A a=some q->q=h
def nC(A:Aw)(a:gO)(h:Nat):Aw:=if a.op=6 then put (del A a.bp) (a.next+a.first) (eX a.op h) else del A a.bp
def zQ(c:Bs)(m:Nat):Nat->Nat->Nat->Aw->Prop
 |0,_,_,_=>False
 |f+1,a,h,A=>n_ A a h/\((a<c.length/\cU c a/\oX m (bH c a)/\ig (opAt c a)<=h/\eX (opAt c a) h<=16/\
  (opAt c a=6->n_ (del A a) ((bH c a).next+(bH c a).first) (eX (opAt c a) h))/\zQ c m f (bH c a).next (eX (opAt c a) h) (nC A (bH c a) h))\/
  (¬a<c.length/\h=0/\∀q,q≠a->A q=none))
def Spec(c:Bs)(m a h:Nat)(A:Aw):Prop:=∃f,zQ c m f a h A
def BG{m h:Nat}{A:Aw}(d:¬g<i.length):Spec i m g h A↔n_ A g h/\h=0/\∀q,q≠g->A q=none:=by
 constructor
 ·rintro⟨f,e⟩;cases f with
  |zero=>exact e.elim
  |succ f=>
   obtain⟨b,a|a⟩:=e
   ·exact absurd a.1 d
   exact⟨b,a.2⟩
 rintro⟨b,a⟩;exact⟨1,b,.inr ⟨d,a⟩⟩
def rj{m h:Nat}{A:Aw}(n:g<i.length):Spec i m g h A↔n_ A g h/\cU i g/\oX m (bH i g)/\ig (opAt i g)<=h/\eX (opAt i g) h<=16/\
 (opAt i g=6->n_ (del A g) ((bH i g).next+(bH i g).first) (eX (opAt i g) h))/\Spec i m (bH i g).next (eX (opAt i g) h) (nC A (bH i g) h):=by
 constructor
 ·rintro⟨f,o⟩;cases f with
  |zero=>exact o.elim
  |succ f=>
   obtain⟨k,c|c⟩:=o
   ·have⟨_,a,b,d,e,j,l⟩:=c;exact⟨k,a,b,d,e,j,f,l⟩
   exact absurd n c.1
 rintro⟨k,a,b,d,e,j,f,l⟩;exact⟨f+1,k,.inl ⟨n,a,b,d,e,j,l⟩⟩
def sY(a:cU i g):g<(bH i g).next:=by have:=a.1;simp only[bH];omega
def yU(a:cU i g):(bH i g).next<=i.length:=a.2
def a_:Nat->Bs->Option (List Bs×Bs)
 |0,a=>some ([],a)|n+1,a=>if 2<=a.length/\2+two a 0<=a.length then(a_ n (a.drop (2+two a 0))).map λx=>((a.drop 2).take (two a 0)::x.1,x.2) else none
def load(s:Bs):Option (List Bs×Bs):=if 4<=s.length/\s.take 2=[80,49]/\two s 2<=1000 then a_ (two s 2) (s.drop 4) else none
def k_(s:Bs):Prop:=∃x,load s=some x/\Spec x.2 x.1.length 0 0 (λ_=>none)
theorem Bp:∀(n:Nat) (a:Bs) (x:List Bs×Bs),a_ n a=some x->x.1.length=n/\x.2.length<=a.length
 |0,a,x,h=>by cases h;exact⟨rfl,X0 _⟩
 |n+1,a,x,h=>by
  unfold a_ at h;split at h
  ·cases e:a_ n (a.drop (2+two a 0)) with
   |none=>rw[e]at h;cases h
   |some y=>rw[e]at h;cases h;have:=Bp n _ y e;simp only[Ya,Zu]at this⊢;omega
  cases h
def QO(h:2<=i.length/\2+two i 0<=i.length)(b:List Bs):
 (a_ (g+1) i).map (λx=>(b++x.1,x.2))=(a_ g (i.drop (2+two i 0))).map (λx=>((b++[(i.drop 2).take (two i 0)])++x.1,x.2)):=by rw[a_,Yd h,Option.map_map];congr 1;funext x;simp
def Tt(h:¬(2<=i.length/\2+two i 0<=i.length)):a_ (g+1) i=none:=by rw[a_,Yb h]
def kJ(c:Bs):Nat->Nat->List (gO×Bool)
 |0,_=>[]
 |f+1,a=>if a<c.length then(if jt (opAt c a)≠0/\a+jt (opAt c a)<=c.length then(bH c a,true)::kJ c f (bH c a).next else [(⟨0,0,0,0,0⟩,false)]) else []
def yV(c:Bs)(a:Nat):opAt c a<256:=(c.getD a 0).toNat_lt
def Wa(c:Bs)(a:Nat):two c a<65536:=by have:=(c.getD a 0).toNat_lt;have:=(c.getD (a+1) 0).toNat_lt;unfold two;omega



end Pl
end
section
open RowKit
variable {a:Prop}
def aC(h:a):Hid a:=h
def uh(h:Hid a):a:=h
def kz{a b:Bool}(h:a=b):Ending.returned (.bool a)=.returned (.bool b):=by rw[h]
def sW{k:IntKind}{a b:Int}(h:a=b):Ending.returned (.int k a)=.returned (.int k b):=by rw[h]
def qp{a b:aA}(h:a=b):Ending.returned (.string a)=.returned (.string b):=by rw[h]
def ea(a:hU):(⟨a.toArray⟩:aA).size=a.length:=by show a.toArray.size=_;simp
def ij{t:aA}{a:hU}(h:t.data.toList=a):t=⟨a.toArray⟩:=by subst h;cases t;simp
def qm(a:hU):(⟨a.toArray⟩:aA).data.toList=a:=by simp
def sS(s:aA)(a:Nat)(h:a<s.size):Pl.opAt s.data.toList a=(s[a]).toNat:=by unfold Pl.opAt;rw[Yf,X9 (by rw[<-YJ];exact h)];rfl
def Ce(s:aA)(a:Nat)(h:a+1<s.size):two s.data.toList a=256*(s[a]).toNat+(s[a+1]).toNat:=by have c:=sS s a (by omega);have b:=sS s (a+1) h;unfold Pl.opAt at c b;unfold two;rw[c,b]
end
section
open RowKit
variable {c b e:ay}{d:f'}{f g:Nat}{i j:Nat->Prop}{h:aA}{k l:UInt8}{m:ib}
def B6{n:Int}(h: -9223372036854775808<=n/\n<=9223372036854775807):wrap64 n=n:=by unfold wrap64;omega
def Ci(s:aA)(a b c:Nat)(h:c<(s.extract a b).size)(d:a+c<s.size):(s.extract a b)[c]=s[a+c]:=by show(s.extract a b).data[c]=s.data[a+c];simp[ByteArray.data_extract]
def Vb(h:g<256):(f*256)|||g=f*256+g:=by
 have:f*256=f<<<8:=by rw[Nat.shiftLeft_eq]
 rw[this,Nat.shiftLeft_add_eq_or_of_lt (by omega)]
def FG(a b:Nat)(g:a<65536)(f:b<65536):bits .or .i64 (a:Int) (b:Int)=((a|||b:Nat):Int):=by
 have:a|||b<2^16:=Nat.or_lt_two_pow (by omega) (by omega)
 have d:(BitVec.ofInt 64 (a:Int)).toNat=a:=by simp;omega
 have e:(BitVec.ofInt 64 (b:Int)).toNat=b:=by simp;omega
 show IntKind.i64.wrap ((BitVec.ofInt 64 (a:Int)|||BitVec.ofInt 64 (b:Int)).toNat:Int)=_;rw[BitVec.toNat_or,d,e]
 generalize (a|||b)=c at*;simp[IntKind.wrap,IntKind.signed,IntKind.bits];omega
def Lf:bits BinOp.or IntKind.i64 0 (wrap64 (k.toNat:Int))=k.toNat:=by have h:=k.toNat_lt;rw[B6 (by omega)];have:=FG 0 k.toNat (by omega) (by omega);rw[Nat.zero_or]at this;exact this
def Xe:bits BinOp.or IntKind.i64 (wrap64 (bits BinOp.or IntKind.i64 0 (wrap64 (k.toNat:Int))*256)) (wrap64 (l.toNat:Int))=256*k.toNat+l.toNat:=by
 have:=k.toNat_lt;have a:=l.toNat_lt;rw[Lf,B6 (by omega),B6 (by omega)];have e:((k.toNat:Int)*256)=((k.toNat*256:Nat):Int):=by omega
 rw[e,FG _ _ (by omega) (by omega),Vb (by omega)];omega
def S3(w:ay)(b:h.size=0):
 Calls prog 168 #[.string h] w λe a=>e=.returned (ι 0)/\w=a:=by
 go_in;go_wp2
 refine qa 1 ?_;rw[Z3];go_wp2
 all_goals go_ret
 all_goals exact⟨rfl,rfl⟩
def Tm(w:ay)(c:h.size=1):
 Calls prog 168 #[.string h] w λe a=>e=.returned (ι (h[0].toNat))/\w=a:=by
 go_in;go_wp2
 refine qa 2 ?_;rw[Z3];go_wp2;rw[Z3];go_wp2
 all_goals go_ret
 all_goals exact⟨sW (Lf),rfl⟩
def TD(w:ay)(d:h.size=2):
 Calls prog 168 #[.string h] w λe a=>e=.returned (ι (256*h[0].toNat+h[1].toNat:Int))/\w=a:=by
 go_in;go_wp2
 refine qa 3 ?_;rw[Z3];go_wp2;rw[Z3];go_wp2;rw[Z3];go_wp2
 all_goals go_ret
 all_goals exact⟨sW (Xe),rfl⟩
def rO(a:aA):Nat:=if a.size=0 then 0 else if a.size=1 then Pl.opAt a.data.toList 0 else two a.data.toList 0
def E_(w:ay)(a:h.size<=2):
 θ 168 #[.string h] w (ι (rO h:Nat)):=by
 unfold rO;have:h.size=0\/h.size=1\/h.size=2:=by omega
 obtain a|a|a:=this
 ·rw[Yd a];exact S3 w a
 ·rw[Yb (by omega),Yd a,sS h 0 (by omega)];exact Tm w a
 rw[Yb (by omega),Yb (by omega),Ce h 0 (by omega)];refine(TD w a).mono ?_;rintro e b⟨rfl,rfl⟩;exact⟨sW (by simp),rfl⟩
def A'(s:aA)(a n:Nat)(h:a+n<=s.size)(e:n<=2):rO (s.extract a (a+n))=(if n=0 then 0 else if n=1 then Pl.opAt s.data.toList a else two s.data.toList a):=by
 have d:(s.extract a (a+n)).size=n:=by simp[ByteArray.size_extract];omega
 unfold rO;rw[d];by_cases c:n=0
 ·rw[Yd c,Yd c]
 rw[Yb c,Yb c];by_cases b:n=1
 ·rw[Yd b,Yd b,sS _ 0 (by omega),sS _ a (by omega),Ci s a (a+n) 0 (by omega) (by omega)];rfl
 rw[Yb b,Yb b,Ce _ 0 (by omega),Ce _ a (by omega),Ci s a (a+n) 0 (by omega) (by omega),Ci s a (a+n) (0+1) (by omega) (by omega)];rfl
def OG(s:aA)(a n:Nat)(w:ay)(c:n<=2)(h:a+n<=s.size):
 θ 168 #[.string (s.extract a (a+n))] w (ι (if n=0 then 0 else if n=1 then Pl.opAt s.data.toList a else two s.data.toList a:Nat)):=by
 have:(s.extract a (a+n)).size=n:=by simp[ByteArray.size_extract];omega
 rw[<-A' s a n h c];exact E_ w (by omega)
def _root_.Go.Below.drewN(h:Below f b c)(k:Nat):Below f b (c.drewN k):=⟨h.os,h.tape,h.output,h.size,h.block⟩
def aF(w:ay)(b:Nat)(a:TypeId)(c:f'):Prop:=w.heap[b]?=some (.cells c.toArray a (0,0))
def aF.bq(w:ay)(a:TypeId)(b:f'):aF (w.alloc (.cells b.toArray a)) w.heap.size a b:=by show(w.heap.push _)[w.heap.size]?=_;simp
variable {a:TypeId}
def aF.lt{w:ay}{b:Nat}(h:aF w b a d):b<w.heap.size:=(X8.1 h).1
def aF.aD{vs:f'}(h:aF b f a vs)(d:μ b c):aF c f a vs:=(d.block f h.lt).trans h
def aF.aP(h:aF b f a d)(e:Below g b c)(w:f<g):aF c f a d:=(e.block f w).trans h
def aF.alloc{w:ay}{b:Nat}(h:aF w b a d)(c:Obj):aF (w.alloc c) b a d:=(Z0 w c b h.lt).trans h
def aF.drew{w:ay}{b:Nat}(h:aF w b a d):aF w.drew b a d:=h
def aF.cell{w:ay}{b:Nat}(h:aF w b a d)(c:Nat)(e:c<d.length):w.cell? ⟨b,c,none⟩=some d[c]:=by unfold aF at h;simp[World.cell?,h,e]
def aF.frozen(h:aF c f a d)(w:Nat):c.frozen? (η f w)=false:=by unfold aF at h;simp[World.frozen?,h]
def aF.set(h:aF c f a d)(w:Nat)(u:az):aF (c.ψ f w u) f a (d.set w u):=by unfold aF at*;simp[World.setCell,Array.getElem?_modify,h]
def aF.dI(h:aF c f a d)(w:f≠g)(e:Nat)(u:az):aF (c.ψ g e u) f a d:=(Ys c (η g e) u f w).trans h
def aF.grown(h:aF b f a d)(w:b.grownBy c m)(e:some f≠m):aF c f a d:=(w.block f h.lt e).trans h
def aF.bG(B b:Nat)(h:TypeId)(g:f'){β:Type}:OwnFrom B (λ(_:β) W=>aF W b h g):=λ_ X Y k a f d=>by refine(f.block b (X8.1 a).1 (λe=>?_)).trans a;have⟨_,j,c,i⟩:=d b e.symm;unfold aF at a;rw[a]at c;cases c;cases i
def yF{z:az}:madeCells #[z] f=(List.replicate f z).toArray:=by
 apply Array.ext
 ·simp[madeCells]
 intro b c a;simp[madeCells,Nat.mod_one]
def aF.oj(w:ay)(a:TypeId)(z:az)(n:Nat):aF (w.alloc (.cells (madeCells #[z] n) a)) w.heap.size a (List.replicate n z):=by rw[yF];exact aF.bq w a _
structure eG(S:Nat->Prop)(X Y:ay):Prop where
 os:Y.os=X.os
 tape:Y.tape=X.tape
 output:Y.output=X.output
 size:X.heap.size<=Y.heap.size
 block:∀k,k<X.heap.size->¬S k->Y.heap[k]?=X.heap[k]?
def eG.refl(S:Nat->Prop)(X:ay):eG S X X:=⟨rfl,rfl,rfl,X0 _,λ_ _ _=>rfl⟩
def eG.trans(h:eG i c b)(k:eG i b e):eG i c e:=⟨k.os.trans h.os,k.tape.trans h.tape,k.output.trans h.output,Ye h.size k.size,λa Z S=>(k.block a (Yo Z h.size) S).trans (h.block a Z S)⟩
def eG.mono(h:eG i c b)(d:∀k,i k->j k):eG j c b:=⟨h.os,h.tape,h.output,h.size,λa f S=>h.block a f (λe=>S (d a e))⟩
def eG.Ki(h:μ c b):eG i c b:=⟨h.os,h.tape,h.output,h.size,λS a _=>h.block S a⟩
def eG.xc(h:c.grownBy b m):eG (λk=>some k=m) c b:=⟨h.os,h.tape,h.output,h.size,λd X a=>h.block d X a⟩
def eG.alloc{S:Nat->Prop}{X Y:ay}(h:eG S X Y)(b:Obj):eG S X (Y.alloc b):=⟨h.os,h.tape,h.output,by rw[X_];exact H6 h.size,λk a c=>(Z0 Y b k (Yo a h.size)).trans (h.block k a c)⟩
def eG.set(h:eG i c b){X:Nat}(d:i X)(a:Nat)(v:az):eG i c (b.ψ X a v):=⟨h.os,h.tape,h.output,by simpa [World.setCell]using h.size,λk f S=>(Ys b (η X a) v k (λe=>S (by rw[show k=X from e];exact d))).trans (h.block k f S)⟩
def eG.aP(h:eG i b e)(a:Below f c b)(d:f<=b.heap.size)(n:∀k,i k->f<=k):Below f c e:=⟨h.os.trans a.os,h.tape.trans a.tape,h.output.trans a.output,Ye a.size h.size,λk X=>(h.block k (by omega) (λS=>by have:=n k S;omega)).trans (a.block k X)⟩
def eG.row(h:eG i c b)(S:aF c f a d)(e:¬i f):aF b f a d:=(h.block f S.lt e).trans S
end
open RowKit
def iN(a:Nat):Nat:=if a=1\/a=4\/a=8 then 1 else if a=2\/a=6\/a=7\/a=3 then 2 else 0
def jw(a:Nat):Nat:=if a=3 then 2 else 0
def oy(a:Nat):Bool:=decide (1<=a/\a<=8)
def Ay(c:Nat)(p:c<256)(w:ay):
 Calls prog 149 #[.int .u8 c] w λe b=>e=.returned (.tuple #[ι (iN c),ι (jw c),.bool (oy c)])/\w=b:=by
 by_cases a:c=0\/9<=c
 ·have i:((c:Int)==1)=false:=by rw[Yi];omega
  have m:((c:Int)==2)=false:=by rw[Yi];omega
  have o:((c:Int)==3)=false:=by rw[Yi];omega
  have n:((c:Int)==4)=false:=by rw[Yi];omega
  have j:((c:Int)==5)=false:=by rw[Yi];omega
  have l:((c:Int)==6)=false:=by rw[Yi];omega
  have h:((c:Int)==7)=false:=by rw[Yi];omega
  have k:((c:Int)==8)=false:=by rw[Yi];omega
  go_in;go_wp2
  all_goals go_ret3
  have a:=a;have d:iN c=0:=by unfold iN;rw[Yb (by omega),Yb (by omega)]
  have g:jw c=0:=by unfold jw;rw[Yb (by omega)]
  have f:oy c=false:=by unfold oy;simp only[ZB];omega
  rw[d,g,f];exact⟨rfl,rfl⟩
 have:c=1\/c=2\/c=3\/c=4\/c=5\/c=6\/c=7\/c=8:=by omega
 obtain rfl|rfl|rfl|rfl|rfl|rfl|rfl|rfl:=this;all_goals go_in
 all_goals go_wp2
 all_goals go_ret3
 all_goals exact⟨rfl,rfl⟩
def IY(d:Nat)(c:1<=d)(b:d<=8)(w:ay):
 Calls prog 171 #[.int .u8 d] w λe a=>e=.returned (.tuple #[ι (Pl.ig d),ι (ny d)])/\w=a:=by
 have:d=1\/d=2\/d=3\/d=4\/d=5\/d=6\/d=7\/d=8:=by omega
 obtain rfl|rfl|rfl|rfl|rfl|rfl|rfl|rfl:=this;all_goals go_in
 all_goals go_wp2
 all_goals go_ret2
 all_goals exact⟨rfl,rfl⟩
