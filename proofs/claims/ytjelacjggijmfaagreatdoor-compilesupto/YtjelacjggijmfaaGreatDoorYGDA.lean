/- . -/
import Derived.Test.YtjelacjggijmfaaGreatDoorYGD9
set_option maxHeartbeats 4000000
set_option maxRecDepth 100000
namespace Go.Proofs.YtjelacjggijmfaaGreatDoor
open Pl Mk Cp Proofs.Tryz
open RowKit MapKept ChangeMaps Maps
variable {b:iQ}
section
variable {w W:ax} {c:Ad} {bf bi:Nat} {ve:ay} {ef:List bL} {fs:List aI} {aP:Int} {M:Nat}
theorem II (b:∀r p,Pl.look fs r=some p->p.aT.length+1<=M/\p.aT.length<=1073741824):∀d,d<=3->xF c bf bi ve ef fs aP M (iY fs d) (3-d)
 |0,_=>λW F rb s k a h f q n m i g=>Wq.1 (GK (o:=3) (rec:=λs _=>(3,0,s)) (λe=>absurd rfl e) (λs k a h _ _=>j8.refl h M) b a h f q n ak m i g (iY fs 0 s a) rfl)|d+1,t=>λW F rb s k a h f q n m i g=>Wq.1 (GK (o:=3-(d+1)) (rec:=iY fs d) (λ_=>by rw[show 3-(d+1)+1=3-d by omega];exact II b d (by omega)) (zJ b d) b a h f q n (by omega) m i g (iY fs (d+1) s a) rfl)
def iX (n:Nat):dy:=λk=>if k=n then some .aV else if k=n+1 then some .ij else if k=n+2 then some .jt else if k=n+3 then some .cV else if k=n+4 then some .rd else none
def tQ (n a:Nat):Ad:=⟨n+4,a,n+3,n,n+1,n+2⟩
theorem su {n k:Nat}(h:k<n):iX n k=none:=by unfold iX;rw[TJ (by omega),TJ (by omega),TJ (by omega),TJ (by omega),TJ (by omega)]
theorem OO {n k:Nat}(h:iX n k=some b):k=n\/k=n+1\/k=n+2\/k=n+3\/k=n+4:=by
 unfold iX at h;split at h
 ·omega
 ·split at h
  ·omega
  ·split at h
   ·omega
   ·split at h
    ·omega
    ·split at h
     ·omega
     ·cases h
theorem S0 (n g:Nat)(i:jh w (n+3) n (n+1) (n+2) (.slice none 0 0) [])(o:bC w n (iE []))(m:bC w (n+1) [])(p:bC w (n+2) (dm []))(b:aG w (n+4) 186 [.pointer (some ⟨g,0,none⟩),.pointer (some ⟨n+3,0,none⟩),.int .i64 0,.int .i64 0,.int .i64 0]):bu w (iX n) (tQ n g) (λ_=>0) il:=by
 have h:∀f,gO w (iX n) f (.slice none 0 0) (λ_=>0) []:=λf=>⟨Uk _ _ _ _,λk e=>by cases e⟩;refine⟨λk f e=> ?_,?_,?_,?_,?_,?_,λd a=> ?_,b,⟨_,i,h _⟩,o,p,⟨[],m,TD _,λname=>h _⟩,λd r b=> ?_,λd a=> ?_,λname d a=> ?_⟩
 ·rcases OO e with q|q|q|q|q
  ·exact .inl q
  ·exact .inr (.inl q)
  ·exact .inr (.inr (.inl q))
  ·exact .inr (.inr (.inr (by rw[q];exact qY i (.inr (.inl rfl)))))
  ·exact .inr (.inr (.inr (by rw[q];exact qY b (.inl rfl))))
 ·show iX n (n+4)=_;unfold iX;rw[TJ (by omega),TJ (by omega),TJ (by omega),TJ (by omega),TP rfl]
 ·show iX n (n+3)=_;unfold iX;rw[TJ (by omega),TJ (by omega),TJ (by omega),TP rfl]
 ·show iX n n=_;unfold iX;rw[TP rfl]
 ·show iX n (n+1)=_;unfold iX;rw[TJ (by omega),TP rfl]
 ·show iX n (n+2)=_;unfold iX;rw[TJ (by omega),TJ (by omega),TP rfl]
 ·exact absurd a (Nat.not_lt_zero _)
 ·cases b
 ·cases a
 ·cases a
def SF (W:ax)(d:Nat)(a:Nat×Nat×St)(e:Ending)(b :ax):Prop:=
 Below W.heap.size W b /\(a.1≠0->e= .returned (.tuple #[.pointer none,.int .i64 (a.1:Int),.int .i64 (a.2.1:Int)]))/\
  (a.1=0->∃c G rb,c.bx=d/\e= .returned (.tuple #[.pointer (some ⟨c.bb,0,none⟩),.int .i64 0,.int .i64 0])/\bu b G c rb a.2.2/\(∀k,k<W.heap.size->G k=none))
theorem Br (b:Nat)(x:ag)(W:ax)(h:PW W b bf bi ve ef fs aP)(U:c_ W)(hf:∀ab f,Pl.look fs ab=some f->f.aT.length+1<=M/\f.aT.length<=1073741824)(hM:101*M<=4294967296):
 Calls prog 64 #[.pointer (some ⟨b,0,none⟩),.string ⟨x.toArray⟩] W λe N=>SF W b (cI fs x) e N :=by
 have o:=aB (Bu b bf bi ve ef fs aP x W h);cases D:Pl.look fs x with
 |none=>
  have L:cI fs x=(2,0,il):=by unfold cI;rw[D]
  rw[L];rw[D] at o;simp only at o;clear L;go_enter func64,ntmps64;go_wp2_with (first|(go_at_call 87;refine o.u.mono ?_;clear o;rintro e a ⟨rfl,r⟩;have y:=aB r;clear r)|fail)
  go_ret3
  exact⟨y.u,λ_=>rfl,λe=>by cases e⟩
 |some f=>
  rw[D] at o;simp only at o;obtain⟨ae,ai⟩:=hf x f D;have L:cI fs x=iY fs 3 il f.aT:=by unfold cI;rw[D]
  rw[L];have P:Hid (∀a,Below W.heap.size W a->Calls prog 88 #[] a λe d=>e= .returned (.pointer (some ⟨a.heap.size+3,0,none⟩))/\d.heap.size=a.heap.size+4/\Below a.heap.size a d/\∀Z,Z=d.alloc (.cells #[.pointer (some ⟨b,0,none⟩),.pointer (some ⟨a.heap.size+3,0,none⟩),.int .i64 0,.int .i64 0,.int .i64 0] 186)->bu Z (iX a.heap.size) (tQ a.heap.size b) (λ_=>0) il/\En Z (iX a.heap.size) b bf bi ve ef fs aP/\Below W.heap.size W Z):=λa aa=>by
   refine(Kq a).mono ?_;rintro e d ⟨rfl,h1,h2,h3,h4,z,g⟩;refine⟨rfl,g,z,λZ p=> ?_⟩;have E:Below d.heap.size d Z:=by rw[p];exact aj d _
   have t:Below a.heap.size a Z:=z.tr E;have R:Below W.heap.size W Z:=aa.tr t;have ad:aG Z (a.heap.size+4) 186 [.pointer (some ⟨b,0,none⟩),.pointer (some ⟨a.heap.size+3,0,none⟩),.int .i64 0,.int .i64 0,.int .i64 0]:=by rw[p,<-g];exact aG.bA d _ _
   have hs:=aa.size;have l1:=h.row.lt;have l2:=h.aX.lt;have l3:bi<W.heap.size:=by obtain⟨l,q,-⟩:=h.first;exact q.lt
   have l4:=uI U;exact⟨S0 a.heap.size b (aG.aE h1 E) (h2.aE E) (h3.aE E) (h4.aE E) ad,⟨h.aE R,U.aE R,su (by omega),su (by omega),su (by omega),su (by omega)⟩,R⟩
  have CR:Hid (∀n Z,W.heap.size<=n->bu Z (iX n) (tQ n b) (λ_=>0) il->En Z (iX n) b bf bi ve ef fs aP->Below W.heap.size W Z->Calls prog 89 #[.pointer (some ⟨n+4,0,none⟩),.string ⟨f.aT.toArray⟩] Z λe N=>∃G C,e= .returned (.tuple #[.int .i64 ((iY fs 3 il f.aT).1:Int),.int .i64 ((iY fs 3 il f.aT).2.1:Int)])/\bu N G (tQ n b) C (iY fs 3 il f.aT).2.2/\Below W.heap.size W N /\(∀k,k<W.heap.size->G k=none)):=λn Z hn m e t=>by refine(II (c:=tQ n b) hf 3 ak Z (iX n) (λ_=>0) il 0 f.aT m e A5 rfl ae ai (by show 0+(100-0)*M+M<=_;omega)).mono ?_;rintro e w' ⟨G,C,rfl,m2,A⟩;have hs:=t.size;have hG:∀k,k<W.heap.size->G k=none:=λk hk=>A.fm k (by omega) (su (by omega));refine⟨G,C,rfl,m2,⟨A.tn.os.trans t.os,A.tn.tape.trans t.tape,A.tn.output.trans t.output,TT hs A.tn.size,λk hk=>(A.tn.block k (by omega) (λe=>e (su (by omega)))).trans (t.block k hk)⟩,hG⟩
  clear L h U hf;generalize iY fs 3 il f.aT=al at*;obtain⟨Q,rn,rs⟩:=al;simp only at CR;by_cases B:Q=0
  ·have u1:((Q:Int) !=0)=false:=by rw[Uv];omega
   have T:=aB B;clear B;go_enter func64,ntmps64;go_wp2_with (first|(go_at_call 87;refine o.u.mono ?_;clear o;rintro e a ⟨rfl,r⟩;have y:=aB r;clear r)|(go_at_call 88;refine(P.u a y.u).mono ?_;clear P;rintro e d ⟨rfl,g,z,p⟩;have ah:d.heap.size=a.heap.size+4:=g;have S:=aB p;have H6:=aB g;clear z p g)|(go_at_call 89;obtain⟨m,J,K⟩:=S.u _ rfl;refine(CR.u a.heap.size _ y.u.size m J K).mono ?_;clear CR;rintro e w3 ⟨G,C,rfl,I,H,O⟩;have r1:w3.cell? ⟨a.heap.size+4,1,none⟩=some (.pointer (some ⟨a.heap.size+3,0,none⟩)):=I.row.cell? (i:=1) rfl;have af:=aB I;have V:=aB H;have ac:=aB O;clear I H O m J K)|fail)
   go_ret3
   have B:=T.u;subst B;exact⟨V.u,λe=>absurd rfl e,λ_=>⟨tQ a.heap.size b,G,C,rfl,rfl,af.u,ac.u⟩⟩
  ·have u1:((Q:Int) !=0)=true:=by rw[UY];omega
   have T:=aB B;clear B;go_enter func64,ntmps64;go_wp2_with (first|(go_at_call 87;refine o.u.mono ?_;clear o;rintro e a ⟨rfl,r⟩;have y:=aB r;clear r)|(go_at_call 88;refine(P.u a y.u).mono ?_;clear P;rintro e d ⟨rfl,g,z,p⟩;have ah:d.heap.size=a.heap.size+4:=g;have S:=aB p;have H6:=aB g;clear z p g)|(go_at_call 89;obtain⟨m,J,K⟩:=S.u _ rfl;refine(CR.u a.heap.size _ y.u.size m J K).mono ?_;clear CR;rintro e w3 ⟨G,C,rfl,I,H,O⟩;have V:=aB H;clear I H O m J K)|fail)
   go_ret3
   exact⟨V.u,λ_=>rfl,λe=>absurd e T.u⟩
end
def fF (W:ax)(v:ay)(x:List ag):Prop:=(v= .slice none 0 0/\x=[])\/∃b a c,v= .slice (some ⟨b,a,none⟩) x.length c/\x.length<=c/\dV W b a x/\∃d e,W.heap[b]?=some (Obj.cells d 9 e)
def nS (W:ax)(v:ay)(x:List (ag×Nat)):Prop:=(v= .slice none 0 0/\x=[])\/∃b a c,v= .slice (some ⟨b,a,none⟩) x.length c/\qB W b a x/\∃d e,W.heap[b]?=some (Obj.cells d 202 e)
def mr (W:ax)(v:ay)(x:List Nat):Prop:=(v= .slice none 0 0/\x=[])\/∃b a c,v= .slice (some ⟨b,a,none⟩) x.length c/\mR W b a x/\∃d e,W.heap[b]?=some (Obj.cells d 265 e)
variable {a:Nat}
section
variable {W X:ax} {v:ay}
theorem dV.uS {b:Nat}{x:List ag}(h:dV W b a x)(d:X.heap[b]?=W.heap[b]?):dV X b a x:=λj y e=>by have:=h j y e;unfold World.cell? at*;rw[d];exact this
theorem qB.uS {b:Nat}{x:List (ag×Nat)}(h:qB W b a x)(d:X.heap[b]?=W.heap[b]?):qB X b a x:=λj y e=>by have:=h j y e;unfold World.cell? at*;rw[d];exact this
theorem mR.uS {b:Nat}{x:List Nat}(h:mR W b a x)(d:X.heap[b]?=W.heap[b]?):mR X b a x:=λj y e=>by have:=h j y e;unfold World.cell? at*;rw[d];exact this
structure Bl (W X:ax):Prop where
 aY:∀(k:Nat) (cs:Array ay) (fz:Nat×Nat),W.heap[k]?=some (Obj.cells cs 9 fz)->X.heap[k]?=W.heap[k]?
 aH:∀(k:Nat) (cs:Array ay) (fz:Nat×Nat),W.heap[k]?=some (Obj.cells cs 202 fz)->X.heap[k]?=W.heap[k]?
 xK:∀(k:Nat) (cs:Array ay) (fz:Nat×Nat),W.heap[k]?=some (Obj.cells cs 265 fz)->X.heap[k]?=W.heap[k]?
 xP:∀(k:Nat) (cs:Array ay) (fz:Nat×Nat),W.heap[k]?=some (Obj.cells cs 273 fz)->X.heap[k]?=W.heap[k]?
 cV:∀(k:Nat) (cs:Array ay) (fz:Nat×Nat),W.heap[k]?=some (Obj.cells cs 142 fz)->X.heap[k]?=W.heap[k]?
theorem Bl.aL (a:Below W.heap.size W X):Bl W X:=⟨λk _ _ h=>a.block k (TN.1 h).1,λk _ _ h=>a.block k (TN.1 h).1,λk _ _ h=>a.block k (TN.1 h).1,λk _ _ h=>a.block k (TN.1 h).1,λk _ _ h=>a.block k (TN.1 h).1⟩
theorem fF.bl {x:List ag}(h:fF W v x)(a:Bl W X):fF X v x:=by
 rcases h with h|⟨b,o,c,h1,h2,h3,cs,fz,h4⟩
 ·exact .inl h
 ·have q:=a.aY b cs fz h4;exact .inr ⟨b,o,c,h1,h2,h3.uS q,cs,fz,q.trans h4⟩
theorem nS.bl {x:List (ag×Nat)}(h:nS W v x)(a:Bl W X):nS X v x:=by
 rcases h with h|⟨b,o,c,h1,h3,cs,fz,h4⟩
 ·exact .inl h
 ·have q:=a.aH b cs fz h4;exact .inr ⟨b,o,c,h1,h3.uS q,cs,fz,q.trans h4⟩
theorem mr.bl {x:List Nat}(h:mr W v x)(a:Bl W X):mr X v x:=by
 rcases h with h|⟨b,o,c,h1,h3,cs,fz,h4⟩
 ·exact .inl h
 ·have q:=a.xK b cs fz h4;exact .inr ⟨b,o,c,h1,h3.uS q,cs,fz,q.trans h4⟩
theorem fF.sh {x:List ag}(h:fF W v x):∃a c,v= .slice a x.length c:=by
 rcases h with⟨d,e⟩|⟨b,f,c,d,-⟩
 ·subst e;exact⟨none,0,d⟩
 ·exact⟨_,c,d⟩
theorem nS.sh {x:List (ag×Nat)}(h:nS W v x):∃a c,v= .slice a x.length c:=by
 rcases h with⟨d,e⟩|⟨b,f,c,d,-⟩
 ·subst e;exact⟨none,0,d⟩
 ·exact⟨_,c,d⟩
theorem mr.sh {x:List Nat}(h:mr W v x):∃a c,v= .slice a x.length c:=by
 rcases h with⟨d,e⟩|⟨b,f,c,d,-⟩
 ·subst e;exact⟨none,0,d⟩
 ·exact⟨_,c,d⟩
theorem fF.rP {x:List ag}(h:fF W v x):qF W v x:=by
 rcases h with h|⟨b,o,c,h1,h2,h3,cs,fz,h4⟩
 ·exact .inl h
 ·exact .inr ⟨b,o,c,h1,(TN.1 h4).1,h3⟩
theorem fF.rd {x:List ag}{a:Option Addr}{n c:Nat}(h:fF W (.slice a n c) x):∃b d,0<x.length->a=some ⟨b,d,none⟩/\b<W.heap.size/\dV W b d x:=by
 rcases h with⟨g,f⟩|⟨b,d,o,g,f,k,m,p,i⟩
 ·subst f;exact⟨0,0,λe=>by simp at e⟩
 ·cases g;exact⟨b,d,λ_=>⟨rfl,(TN.1 i).1,k⟩⟩
theorem mr.rd {x:List Nat}{a:Option Addr}{n c:Nat}(h:mr W (.slice a n c) x):∃b d,0<x.length->a=some ⟨b,d,none⟩/\b<W.heap.size/\mR W b d x:=by
 rcases h with⟨f,g⟩|⟨b,d,o,f,k,m,p,i⟩
 ·subst g;exact⟨0,0,λe=>by simp at e⟩
 ·cases f;exact⟨b,d,λ_=>⟨rfl,(TN.1 i).1,k⟩⟩
theorem fF.bI {x:List ag}{B:Nat}(h:W.ownsRow B 9 1 v x.length (x.map aK)):fF W v x:=by
 rcases h.2 with⟨a,d⟩|⟨g,cap,i,a,d,k,e,-⟩
 ·exact .inl ⟨a,Vp d⟩
 ·refine .inr ⟨g,0,cap,a,e,λj y b=> ?_,i,_,k⟩;rw[a] at h;have f:=(TZ.1 b).1;have:=kI h j (by rw[TR];exact f);rw[Ur,this,Ut,(TZ.1 b).2]
end
def bK (s:St)(a:Nat):Rl:=s.aD.getD a ⟨[],[],[]⟩
structure BM (W:ax)(c:Ad)(rb:Nat->Nat)(s:St)(vp:ay)(l:df):Prop where
 cV:jh W c.bb c.nm c.bt c.pb vp s.first
 aV:bC W c.nm (iE s.aV)
 ij:bC W c.bt l
 jt:bC W c.pb (dm s.ph)
 bD:mr W vp (s.bD.map rb)
 of:∀name,mr W ((cJ l name).getD (.slice none 0 0)) ((s.of name).map rb)
 aD:∀i,i<s.aD.length->∃vt vn vc,aG W (rb i) 273 [vt,vn,vc]/\fF W vt (bK s i).tg/\fF W vn (bK s i).nd/\nS W vc (bK s i).cs
 pl:∀i∈s.bD,i<s.aD.length
 ol:∀name,∀i∈s.of name,i<s.aD.length
section
variable {W X:ax} {F:dy} {c:Ad} {rb:Nat->Nat} {s:St} {vp:ay} {l:df}
theorem dz.I3 {v:ay}{x:List ag}(h:dz W F v x):fF W v x:=by
 rcases h with h|⟨b,o,c,h1,h2,h3,h4,h5,h6⟩
 ·exact .inl h
 ·exact .inr ⟨b,o,c,h1,h6,h4,h5⟩
theorem gO.I7 {v:ay}{f:List Nat}(h:gO W F b v rb f):mr W v (f.map rb):=by
 rcases h.1.2 with⟨e,g⟩|⟨o,cap,k,e,g,m,-⟩
 ·exact .inl ⟨e,by rw[Vp g];rfl⟩
 ·refine .inr ⟨o,0,cap,by rw[TR];exact e,λj y a=> ?_,k,_,m⟩;have i:=h.1;rw[e] at i;rw[UG] at a;cases d:f[j]? with
  |none=>rw[d] at a;cases a
  |some z=>rw[d] at a;cases a;have n:=(TZ.1 d).1;have:=kI i j (by rw[TR];exact n);rw[Ur,this,Ut,(TZ.1 d).2];rfl
theorem Gj:∀(b:List (ag×Nat)) (j:Nat) (x:ag×Nat),b[j]?=some x->(m_ b)[j*2]?=some (aK x.1)/\(m_ b)[j*2+1]?=some (.int .i64 (x.2:Int))
 |[],_,_,h=>by cases h
 |y::a,0,x,h=>by cases h;exact⟨rfl,rfl⟩
 |y::a,j+1,x,h=>by have d:=Gj a j x h;have e:m_ (y::a)=aK y.1::Value.int .i64 (y.2:Int)::m_ a:=rfl;rw[e,show (j+1)*2=j*2+2 by omega];exact d
theorem gx {B e n g cap size:Nat}{d:List ay}(h:W.ownsRow B e size (.slice (some ⟨g,0,none⟩) n cap) n d)(f:Nat)(u:ay)(a:d[f]?=some u):W.cell? ⟨g,f,none⟩=some u:=by
 rcases h.2 with⟨b,-⟩|⟨m,t,q,b,o,i,p,r,x,k⟩
 ·cases b
 ·cases b;rw[<-k,ZE] at a;split at a
  ·simp only[World.cell?,i];simpa using a
  ·cases a
theorem mK.S7 {v:ay}{d:List (ag×Nat)}(h:mK W F b v d):nS W v d:=by
 rcases h.1.2 with⟨a,f⟩|⟨o,cap,m,a,f,n,-⟩
 ·exact .inl ⟨a,Vp f⟩
 ·refine .inr ⟨o,0,cap,a,λj y k=> ?_,m,_,n⟩;have e:=h.1;rw[a] at e;obtain⟨i,g⟩:=Gj d j y k;rw[Ur];exact⟨gx e _ _ i,gx e _ _ g⟩
theorem bu.bm (h:bu W F c rb s):∃vp l,BM W c rb s vp l:=by
 obtain⟨vp,p,n⟩:=h.cV;obtain⟨l,r,-,q⟩:=h.ij;refine⟨vp,l,p,h.aV,r,h.jt,n.I7,λname=>(q name).I7,λa b=> ?_,h.pl,h.ol⟩;obtain⟨g,m,o,i,f,k,d⟩:=h.aD a s.aD[a] (TH b);have e:bK s a=s.aD[a]:=by unfold bK;simp[b]
 rw[e];exact⟨g,m,o,i,f.I3,k.I3,d.S7⟩
theorem BM.bl (h:BM W c rb s vp l)(a:Bl W X)(k:X.heap[c.nm]?=W.heap[c.nm]?)(g:X.heap[c.bt]?=W.heap[c.bt]?)(p:X.heap[c.pb]?=W.heap[c.pb]?):BM X c rb s vp l:=by refine⟨(a.cV _ _ _ h.cV).trans h.cV,h.aV.kG k,h.ij.kG g,h.jt.kG p,h.bD.bl a,λname=>(h.of name).bl a,λe q=> ?_,h.pl,h.ol⟩;obtain⟨n,f,i,b,d,o,m⟩:=h.aD e q;exact⟨n,f,i,(a.xP _ _ _ b).trans b,d.bl a,o.bl a,m.bl a⟩
theorem BM.aE (h:BM W c rb s vp l)(a:Below W.heap.size W X):BM X c rb s vp l:=h.bl (Bl.aL a) (a.block _ h.aV.lt) (a.block _ h.ij.lt) (a.block _ h.jt.lt)
def gA (s:St):List Nat->List (ag×Nat)
 |[]=>[]
 |a::b=>if 0<(bK s a).cs.length then(bK s a).cs else gA s b
theorem Ju (d:List Nat)(v:ay)(h:BM W c rb s vp l)(o:mr W v (d.map rb))(A:∀i∈d,i<s.aD.length)(hn:d.length<=1073741824):
 Calls prog 239 #[v] W λe t=>∃u,e= .returned u/\nS t u (gA s d)/\t =W:=by
 obtain⟨a,cap,rfl⟩:=o.sh;obtain⟨b,N,n⟩:=o.rd;rw[TR] at n⊢;have E:=aB n;have I:=aB h;have B:=aB A;clear o n h A;go_enter func239,ntmps239;go_wp2_with fail
 go_loopw [7] (λp wr=>∃j:Nat,p= .int .i64 j/\j<=d.length/\wr=W/\Hid (gA s d=gA s (d.drop j))) (λp _=>d.length-aS p)
 case atStart=>exact⟨0,rfl,by omega,rfl,by show _=_;rw[V4]⟩
 case round=>
  obtain⟨j,rfl,O,rfl,g⟩:=hrel;by_cases m:j<d.length
  ·have G:(j:Int)<d.length:=by omega
   have T:(0:Int)<=(j:Int):=by omega
   obtain⟨rfl,V,z⟩:=E.u (by omega);have cn:=z j (rb d[j]) (by rw[UG,TH m];rfl);obtain⟨U,P,L,x,J,H,q⟩:=I.u.aD d[j] (B.u _ (TV m));have y:d.drop j=d[j]::d.drop (j+1):=T2 m;have f:=g.u;rw[y,gA] at f;obtain⟨S,R,rfl⟩:=q.sh;have Q:=x.cell? (i:=2) rfl;have D:=aB q;clear z x J H q y g;generalize d[j]=i at*;generalize bK s i=r at*;by_cases k:0<r.cs.length
   ·have u1:(0:Int)<(r.cs.length:Int):=by omega
    rw[TP k] at f;have g:=aB f;clear f k;go_wp2_with fail
    go_ret;exact⟨_,rfl,by rw[g.u];exact D.u,rfl⟩
   ·have u1:¬(0:Int)<(r.cs.length:Int):=by omega
    rw[TJ k] at f;have g:=aB f;clear f k;go_wp2_with fail
    go_roundw
    case rel=>exact⟨j+1,by go_num,by omega,(by first|rfl|trivial),g⟩
    case measure=>simp only[aS];omega
  ·have C:j=d.length:=by omega
   subst C;have G:¬(d.length:Int)<d.length:=by omega
   have f:=g.u;rw[Wm,gA] at f;have K:=aB f;clear f g;go_wp2_with fail
   go_ret;exact⟨_,rfl,by rw[K.u];exact .inl ⟨rfl,rfl⟩,rfl⟩
end
theorem Tryz.QT:(Tryz.prog.info? 30).map (λa=>(a.zero,a.size,a.bytes))=some (some (.slice none 0 0),1,24):=by kernel_rfl
def fu (s:St)(a:List Nat):List ag:=if a.length=1 then(bK s (a.headD 0)).nd else bJ (a.map λb=>(bK s b).nd).flatten []
structure AW (W:ax)(xs:List Nat)(f:Nat->ay)(j:Nat)(u:ay)(X:ax):Prop where
 aL:Below W.heap.size W X
 bI:X.ownsRow W.heap.size 30 1 u j ((xs.take j).map f)
section
variable {W X:ax} {c:Ad} {rb:Nat->Nat} {s:St} {vp:ay} {l:df}
theorem KQ (d:List Nat)(v:ay)(h:BM W c rb s vp l)(T:mr W v (d.map rb))(q:∀g∈d,g<s.aD.length)(hn:d.length<=1073741824)(hl:(d.map λg=>(bK s g).nd).flatten.length<=1073741824):
 Calls prog 238 #[v] W λe B=>∃u,e= .returned u/\fF B u (fu s d)/\Below W.heap.size W B :=by
 obtain⟨i0,an,aC,av,aJ⟩:=UF Tryz.QT;obtain⟨a,cap,rfl⟩:=T.sh;obtain⟨b,aN,S⟩:=T.rd;rw[TR] at S⊢;obtain⟨f,hf⟩:=Classical.axiomOfChoice (r:=λ(g:Nat) (u:ay)=>g<s.aD.length->∃A z,aG W (rb g) 273 [A,u,z]/\fF W u (bK s g).nd) (λg=>by
  by_cases hi:g<s.aD.length
  ·obtain⟨A,vn,z,t,q2,n,q4⟩:=h.aD g hi;exact⟨vn,λ_=>⟨A,z,t,n⟩⟩
  ·exact⟨.slice none 0 0,λe=>absurd e hi⟩)
 have HB:=aB S;have Q:=aB hf;have L:=aB q;clear T S h q hf;by_cases K:d.length=1
 ·have w1:((d.length:Int)==1)=true:=by rw[UR];omega
  have E:fu s d=(bK s (d.headD 0)).nd:=by unfold fu;rw[TP K]
  have J:0<d.length:=by omega
  have am:d.headD 0=d[0]:=by
   cases d with
   |nil=>simp at J
   |cons x y=>rfl
  rw[E,am];obtain⟨rfl,ai,G⟩:=HB.u J;have cn:=G 0 (rb d[0]) (by rw[UG,TH J];rfl);rw[Ve] at cn;obtain⟨A,z,t,n⟩:=Q.u d[0] (L.u _ (TV J));have O:=t.cell? (i:=1) rfl;have u1:(0:Int)<(d.length:Int):=by omega
  have HQ:=aB n;obtain⟨C,I,D⟩:=n.sh;rw[D] at O;clear G t n E am K;go_enter func238,ntmps238;go_wp2_with fail
  go_ret;exact⟨_,rfl,by rw[<-D];exact HQ.u,TF _ _⟩
 ·have w1:((d.length:Int)==1)=false:=by rw[TQ];omega
  have E:fu s d=bJ (d.map λg=>(bK s g).nd).flatten []:=by unfold fu;rw[TJ K]
  rw[E];have al:Hid (AW W d f 0 (.slice none 0 0) W):=⟨TF _ _,Uk _ _ _ _⟩;clear E K;go_enter func238,ntmps238;go_wp2_with fail
  go_loopw [3,17] (λu U wr=>∃j:Nat,U= .int .i64 j/\j<=d.length/\Hid (AW W d f j u wr)) (λ_ U _=>d.length-aS U)
  case atStart=>exact⟨0,rfl,by omega,al⟩
  case round=>
   clear al;obtain⟨j,rfl,aQ,o⟩:=hrel;by_cases i:j<d.length
   ·have t1:(j:Int)<d.length:=by omega
    have t0:(0:Int)<=(j:Int):=by omega
    obtain⟨rfl,ai,G⟩:=HB.u (by omega);have cn:=(G.aL o.u.aL ai) j (rb d[j]) (by rw[UG,TH i];rfl);obtain⟨A,z,t,n⟩:=Q.u d[j] (L.u _ (TV i));have O:=(t.aE o.u.aL).cell? (i:=1) rfl;have V:(d.take (j+1)).map f=(d.take j).map f++[f d[j]]:=by rw[TW i,T'];rfl
    have aM:=o.u.aL.size;obtain⟨C,I,D⟩:=n.sh;rw[D] at O V;have HN:=aB V;clear G t n D V;generalize (bK s d[j]).nd.length=m at*;generalize d[j]=g at*;have N:=(TF wr.heap.size wr).alloc ak (.cells #[.slice C m I] 30);have ar:=aB (aG.bA wr 30 [.slice C m I]);have af:Hid ((wr.alloc (.cells #[.slice C m I] 30)).ownsRow W.heap.size 30 1 u3 j ((d.take j).map f)):=bT o.u.bI (λk hk=>N.block k (o.u.bI.lt k hk).2);have aj:=aB (o.u.aL.trans (N.mono aM));clear N;go_wp2_with (first|(at_builtin;refine Uu _ rfl (.tmp 21) (.tmp 26) 370 rfl W.heap.size 30 i0 (.slice none 0 0) 1 24 underlying370 an aC av aJ rfl (by decide) u3 j _ rfl af.u ⟨wr.heap.size,0,none⟩ 1 1 [.slice C m I] rfl (by simp) (λj u i=>by rw[ji];exact ar.u.cell? i) (by intro u hu;rw[TL] at hu;subst hu;rfl) (by unfold maxLen;omega) (by omega) (by rw[TM];omega) ?_;intro v6 w6 ab ad _ _;have aw:Hid (AW W d f (j+1) v6 w6):=⟨aj.u.trans ((Tn.grown (p:=λk=>W.heap.size<=k) ad (λk e=>(af.u.lt k e).1)).aL aj.u.size (λk e=>e)),by rw[HN.u];exact ab⟩;clear ab ad)|fail)
    go_roundw
    case rel=>exact⟨j+1,by go_num,by omega,aw⟩
    case measure=>simp only[aS];omega
   ·have ap:j=d.length:=by omega
    subst ap;have t1:¬(d.length:Int)<d.length:=by omega
    have H:=o.u.bI;rw[Us] at H;obtain⟨au,cu,rfl⟩:=gL H;have P:=o.u.aL;have CO:Hid (Calls prog 230 #[.slice au d.length cu] wr λe B=>∃u,e= .returned u/\B.ownsRow wr.heap.size 9 1 u (bJ (d.map λg=>(bK s g).nd).flatten []).length ((bJ (d.map λg=>(bK s g).nd).flatten []).map aK)/\Below wr.heap.size wr B):=by
     have aa:(d.map λg=>(bK s g).nd).length=d.length:=TR _;have R:=λbb oo ha=>zH (d.map λg=>(bK s g).nd) au cu bb oo wr ha (by rw[aa];exact hn) hl;rw[aa] at R;rcases H.2 with⟨e1,e2⟩|⟨az,aR,aO,e1,e2,e3,-⟩
     ·exact R 0 0 (λe=>by omega)
     ·cases e1;refine R az 0 (λ_=>⟨rfl,(TN.1 e3).1,λj x i=> ?_⟩);rw[UG] at i;cases q:d[j]? with
      |none=>rw[q] at i;cases i
      |some y=>rw[q] at i;cases i;have aF:=(TZ.1 q).1;have ae:=kI H j (by rw[TR];exact aF);rw[Ut,(TZ.1 q).2] at ae;obtain⟨A,z,-,n⟩:=Q.u y (L.u _ (Vw q));exact⟨f y,by rw[Ur];exact ae,(n.bl (Bl.aL P)).rP⟩
    have aA:=aB P;clear H o P;go_wp2_with (first|(go_at_call 230;refine CO.u.mono ?_;clear CO;rintro e w2 ⟨u2,rfl,ah,ac⟩;have aH:=aB (fF.bI ah);have ao:=aB (aA.u.tr ac);clear ah ac)|fail)
    go_ret;exact⟨_,rfl,aH.u,ao.u⟩
end
def je (s:St)(n:ag):Bool:=decide (0<(s.of n).length)
structure mV (W:ax)(wk:Nat)(c:Ad)(rb:Nat->Nat)(s:St)(vp:ay)(l:df)(bf bi:Nat)(ve:ay)(ef:List bL)(fs:List aI)(aP:Int)(v2 v3 v4 v5:ay):Prop where
 row:aG W wk 193 [.pointer (some ⟨c.bb,0,none⟩),.pointer (some ⟨c.bx,0,none⟩),v2,v3,v4,v5]
 bm:BM W c rb s vp l
 pw:PW W c.bx bf bi ve ef fs aP
 fh:c_ W
def kz (W:ax)(rb:Nat->Nat)(v:ay)(us:List (Nat×List ag)):Prop:=(v= .slice none 0 0/\us=[])\/∃b a f,v= .slice (some ⟨b,a,none⟩) us.length f/\(∃d e,W.heap[b]?=some (Obj.cells d 275 e))/\
 ∀(j:Nat) (x:Nat×List ag),us[j]?=some x->W.cell? ⟨b,a+j*2,none⟩=some (dh rb x.1)/\∃u,W.cell? ⟨b,a+j*2+1,none⟩=some u/\fF W u x.2
def jE (s:St)(fs:List aI)(name:ag):List (Nat×List ag)->Option (Nat×ag)
 |[]=>none
 |x::a=>if(iu name ((bK s x.1).tg.headD [])).2=true/\x.2.all (fU fs (je s) (iu name ((bK s x.1).tg.headD [])).1)=true then some (x.1,(iu name ((bK s x.1).tg.headD [])).1) else jE s fs name a
def xM (rb:Nat->Nat):Option (Nat×ag)->ay
 |none=> .tuple #[.pointer none,.string ⟨#[]⟩,.bool false]
 |some (b,a)=> .tuple #[dh rb b,.string ⟨a.toArray⟩,.bool true]
section
variable {W X:ax} {wk:Nat} {c:Ad} {rb:Nat->Nat} {s:St} {vp:ay} {l:df} {bf bi:Nat} {ve:ay} {ef:List bL} {fs:List aI} {aP:Int} {v2 v3 v4 v5:ay}
theorem mV.aE (h:mV W wk c rb s vp l bf bi ve ef fs aP v2 v3 v4 v5)(a:Below W.heap.size W X):mV X wk c rb s vp l bf bi ve ef fs aP v2 v3 v4 v5:=⟨h.row.aE a,h.bm.aE a,h.pw.aE a,h.fh.aE a⟩
theorem mV.at (h:mV W wk c rb s vp l bf bi ve ef fs aP v2 v3 v4 v5):vi W wk c.bb c.nm c.bt c.pb c.bx bf bi vp ve v2 v3 v4 v5 s.first l (je s) ef fs aP:=by refine⟨h.row,h.bm.cV,h.bm.ij,λname=> ?_,h.pw,h.fh⟩;obtain⟨a,b,e⟩:=(h.bm.of name).sh;rw[TR] at e;exact⟨a,_,b,e,rfl⟩
theorem kz.aE {v:ay}{us:List (Nat×List ag)}(h:kz W rb v us)(a:Below W.heap.size W X):kz X rb v us:=by
 rcases h with h|⟨b,o,cp,h1,⟨cs,fz,h2⟩,h3⟩
 ·exact .inl h
 ·have d:=(TN.1 h2).1;refine .inr ⟨b,o,cp,h1,⟨cs,fz,(a.block b d).trans h2⟩,λj x g=> ?_⟩;obtain⟨f,u,e,i⟩:=h3 j x g;exact⟨(a.cell (p:=⟨b,o+j*2,none⟩) d).trans f,u,(a.cell (p:=⟨b,o+j*2+1,none⟩) d).trans e,i.bl (Bl.aL a)⟩
theorem kz.sh {v:ay}{us:List (Nat×List ag)}(h:kz W rb v us):∃a d,v= .slice a us.length d:=by
 rcases h with⟨e,f⟩|⟨b,g,d,e,-⟩
 ·subst f;exact⟨none,0,e⟩
 ·exact⟨_,d,e⟩
theorem EH (name target:ag):(iu name target).1.length<=name.length:=by
 unfold iu;split
 ·simp
 ·have a:=By name (Mk.bj 37 target);simp only[Lib.trimSuffix];split
  ·rw[Um];omega
  ·exact a
theorem Ia (n:ag):Lib.countB ⟨n.toArray⟩ ⟨#[37]⟩<=n.length:=by have:=Lib.countB_mul_le (⟨#[37]⟩:az) (by decide) n.length ⟨n.toArray⟩ (by show n.length<=_;omega);have e:(⟨#[37]⟩:az).size=1:=rfl;rw[e,aa2] at this;exact this
structure tK (W:ax)(s:St)(fs:List aI)(name:ag)(us:List (Nat×List ag))(j:Nat)(X:ax):Prop where
 aL:Below W.heap.size W X
 eq:jE s fs name us=jE s fs name (us.drop j)
theorem Kl (us:List (Nat×List ag))(name:ag)(h:mV W wk c rb s vp l bf bi ve ef fs aP v2 v3 v4 v5)(hu:kz W rb v2 us)(hx:∀x∈us,x.1<s.aD.length/\(bK s x.1).tg≠[]/\(∀y∈(bK s x.1).tg,y.length<=2000)/\x.2.length<=2000/\∀n∈x.2,n.length<=2000)(hn:us.length<=1073741824)(ao:name.length<=1073741824):
 Calls prog 240 #[.pointer (some ⟨wk,0,none⟩),.string ⟨name.toArray⟩] W λe W'=>e= .returned (xM rb (jE s fs name us))/\Below W.heap.size W W' :=by
 obtain⟨a,cp,rfl⟩:=hu.sh;have c2:=h.row.cell? (i:=2) rfl;have HH:=aB h;have HU:=aB hu;have HX:=aB hx;have ad:Hid (tK W s fs name us 0 W):=⟨TF _ _,by rw[V4]⟩;clear h hu hx;go_enter func240,ntmps240;go_wp2_with fail
 go_loopw [16] (λU wr=>∃j:Nat,U= .int .i64 j/\j<=us.length/\Hid (tK W s fs name us j wr)) (λU _=>us.length-aS U)
 case atStart=>exact⟨0,rfl,by omega,ad⟩
 case round=>
  clear ad c2;obtain⟨j,rfl,av,r⟩:=hrel;by_cases D:j<us.length
  ·have t1:(j:Int)<us.length:=by omega
   have t0:(0:Int)<=(j:Int):=by omega
   have G:=r.u.aL;have V:=G.size;have N:=HH.u.aE G;rcases HU.u.aE G with⟨-,q⟩|⟨b,aF,aH,q,⟨cs,fz,q1⟩,q2⟩
   ·rw[q] at D;simp at D
   cases q;have aA:=(TN.1 q1).1;obtain⟨p1,u,p2,L⟩:=q2 j us[j] (TH D);obtain⟨x1,O,x3,x4,K⟩:=HX.u us[j] (TV D);have af:us.drop j=us[j]::us.drop (j+1):=T2 D;have f:=r.u.eq;rw[af,jE] at f;obtain⟨vt,vn,vc,P,r2,-,-⟩:=N.bm.aD us[j].1 x1;have ai:=P.lt;generalize us[j]=xx at*;obtain⟨d,o⟩:=xx;simp only at p1 L x1 O x3 x4 K f P r2 ai;have aa:0<(bK s d).tg.length:=Uy.2 O;have ah:=zc _ aa;rw[ah] at f;rcases r2 with⟨-,z⟩|⟨tb,tO,tc,rfl,z1,z2,aJ,aO,z3⟩
   ·exact absurd z O
   have aM:=(TN.1 z3).1;have e0:=P.cell? (i:=0) rfl;have e1:=z2 0 (bK s d).tg[0] (TH aa);have az:=x3 _ (TV aa);have aw:(0:Int)<((bK s d).tg.length:Int):=by omega
   rw[Ve] at e1;unfold aK at e1;generalize (bK s d).tg[0]=k at*;generalize (bK s d).tg.length=aN at*;obtain⟨H,E,aq⟩:=L.sh;subst aq;obtain⟨ar,ap,I⟩:=L.rd;have aC:=wv 37 k;have au:=y8 37 k;have aj:=EH name k;have R:=(TF wr.heap.size wr).alloc ak (.cells #[dh rb d,.slice H o.length E] 275);have rX:=aG.bA wr 275 [dh rb d,.slice H o.length E];have i:=aB (Lh name k (wr.alloc (.cells #[dh rb d,.slice H o.length E] 275)) (N.fh.aE R) ao (by omega) (by omega) (by omega));have B:Hid (∀w,Below wr.heap.size wr w->Calls prog 141 #[.pointer (some ⟨wk,0,none⟩),.slice H o.length E,.string ⟨(iu name k).1.toArray⟩] w λe w'=>e= .returned (.bool (o.all (fU fs (je s) (iu name k).1)))/\Below w.heap.size w w'):=λw T=>BP o (iu name k).1 H E ar ap (N.aE T).at (λe=>⟨(I e).1,T7 (I e).2.1 T.size,(I e).2.2.aL T (I e).2.1⟩) (by omega) (λn hn=>⟨by have:=K n hn;omega,by have h1:=K n hn;have h2:=Ia n;have h3:Lib.countB ⟨n.toArray⟩ ⟨#[37]⟩*(iu name k).1.length<=2000*1073741824:=Nat.mul_le_mul (by omega) (by omega);omega⟩);have t:=aB R;have Q:=aB rX;have m:=aB G;clear N q2 L P z2 z3 I R rX af q1 O x3 K ah r G;unfold dh at p1 Q;generalize iu name k=SB at*;obtain⟨S,ok⟩:=SB;simp only at f aj i B;generalize o.all (fU fs (je s) S)=al at*;cases ok with
   |false=>
    have p:Hid (tK W s fs name us (j+1) wr):=⟨m.u,by rw[f,TJ (by simp)]⟩;clear f B;unfold dh at i t;go_wp2_with (first|(go_at_call 273;refine i.u.mono ?_;clear i;rintro e C ⟨rfl,g⟩;have ac:Hid (tK W s fs name us (j+1) C):=⟨m.u.trans ((t.u.tr g).mono V),p.u.eq⟩;clear g)|fail)
    go_roundw
    case rel=>exact⟨j+1,by go_num,by omega,ac⟩
    case measure=>simp only[aS];omega
   |true=>
    cases al with
    |false=>
     have p:Hid (tK W s fs name us (j+1) wr):=⟨m.u,by rw[f,TJ (by simp)]⟩;clear f;unfold dh at i t;go_wp2_with (first|(go_at_call 273;refine i.u.mono ?_;clear i;rintro e C ⟨rfl,g⟩;have y1:=(Q.u.aE g).cell? (i:=1) rfl;have J:=aB (t.u.tr g);clear g)|(go_at_call 141;refine(B.u C J.u).mono ?_;clear B;rintro e w2 ⟨rfl,A⟩;have ac:Hid (tK W s fs name us (j+1) w2):=⟨m.u.trans ((J.u.tr A).mono V),p.u.eq⟩;clear A)|fail)
     go_roundw
     case rel=>exact⟨j+1,by go_num,by omega,ac⟩
     case measure=>simp only[aS];omega
    |true=>
     have p:Hid (jE s fs name us=some (d,S)):=by show _=_;rw[f,TP ⟨rfl,rfl⟩]
     clear f;unfold dh at i t;go_wp2_with (first|(go_at_call 273;refine i.u.mono ?_;clear i;rintro e C ⟨rfl,g⟩;have ae:=aB (Q.u.aE g);have y1:=ae.u.cell? (i:=1) rfl;have J:=aB (t.u.tr g);clear g)|(go_at_call 141;refine(B.u C J.u).mono ?_;clear B;rintro e w2 ⟨rfl,A⟩;have y0:=(ae.u.aE A).cell? (i:=0) rfl;have am:=aB (m.u.trans ((J.u.tr A).mono V));clear A)|fail)
     go_ret3
     rw[p.u];exact⟨rfl,am.u⟩
  ·have an:j=us.length:=by omega
   subst an;have t1:¬(us.length:Int)<us.length:=by omega
   have f:=r.u.eq;rw[Wm,jE] at f;have p:=aB f;have m:=aB r.u.aL;clear f r;go_wp2_with fail
   go_ret3
   rw[p.u];exact⟨rfl,m.u⟩
end
theorem Tryz.QC:(Tryz.prog.info? 275).map (λa=>(a.zero,a.size,a.bytes))=some (some (.agg #[.pointer none,.slice none 0 0]),2,32):=by kernel_rfl
def rZ (s:St)(a:Nat):List ag:=(bK s a).nd.filter cS
def xJ (s:St)(a:Nat):List ag:=(bK s a).nd.filter (λn=> !cS n)
def rF (s:St)(fs:List aI)(a:Nat):Bool:=decide (0<(bK s a).cs.length)&&(xJ s a).all (fU fs (je s) [])
def cB (s:St)(fs:List aI)(b:List Nat):List (Nat×List ag):=(b.filter (rF s fs)).map λa=>(a,rZ s a)
def oM (rb:Nat->Nat)(b:List (Nat×ay)):List ay:=b.flatMap λa=>[dh rb a.1,a.2]
theorem NZ (rb:Nat->Nat)(b:List (Nat×ay))(a:Nat×ay):oM rb (b++[a])=oM rb b++[dh rb a.1,a.2]:=by unfold oM;rw[US];simp
theorem Gn (rb:Nat->Nat):∀(b:List (Nat×ay)) (j:Nat) (d:Nat×ay),b[j]?=some d->(oM rb b)[j*2]?=some (dh rb d.1)/\(oM rb b)[j*2+1]?=some d.2
 |[],_,_,h=>by cases h
 |y::a,0,x,h=>by cases h;exact⟨rfl,rfl⟩
 |y::a,j+1,x,h=>by have f:=Gn rb a j x h;have e:oM rb (y::a)=dh rb y.1::y.2::oM rb a:=rfl;rw[e,show (j+1)*2=j*2+2 by omega];exact f
structure oL (W:ax)(rb:Nat->Nat)(us:List (Nat×List ag))(u:ay)(X:ax):Prop where
 aL:Below W.heap.size W X
 row:∃ps:List (Nat×ay),ps.length=us.length/\X.ownsRow W.heap.size 275 2 u us.length (oM rb ps)/\∀(k:Nat) (p:Nat×ay) (x:Nat×List ag),ps[k]?=some p->us[k]?=some x->p.1=x.1/\fF X p.2 x.2
structure qH (w0:ax)(nd:List ag)(j:Nat)(u8 u9:ay)(X:ax):Prop where
 aL:Below w0.heap.size w0 X
 gu :X.ownsRow w0.heap.size 9 1 u8 ((nd.take j).filter cS).length (((nd.take j).filter cS).map aK)
 ot:X.ownsRow w0.heap.size 9 1 u9 ((nd.take j).filter (λn=> !cS n)).length (((nd.take j).filter (λn=> !cS n)).map aK)
 ne:∀k,u8.ownBlock=some k->u9.ownBlock=some k->False
section
variable {W X Y Z:ax} {rb:Nat->Nat} {us:List (Nat×List ag)} {u u8 u9 v6:ay} {w0:ax} {nd:List ag} {j:Nat}
theorem oL.b_ (h:oL W rb us u X):kz X rb u us:=by
 obtain⟨b,z,a,o⟩:=h.row;rcases a.2 with⟨d,f⟩|⟨t,cap,m,d,f,q,-⟩
 ·exact .inl ⟨d,Vp f⟩
 ·refine .inr ⟨t,0,cap,d,⟨m,_,q⟩,λk x e=> ?_⟩;have y:=(TZ.1 e).1;have g:b[k]?=some b[k]:=TH (by omega);obtain⟨i,p⟩:=o k b[k] x g e;obtain⟨n,r⟩:=Gn rb b k _ g;rw[d] at a;rw[Ur,<-i];exact⟨gx a _ _ n,_,gx a _ _ r,p⟩
theorem oL.aE (h:oL W rb us u X)(a:Below X.heap.size X Y):oL W rb us u Y:=by obtain⟨i,m,d,e⟩:=h.row;exact⟨h.aL.tr a,i,m,bT d (λk g=>a.block k (d.lt k g).2),λk p x b f=>⟨(e k p x b f).1,(e k p x b f).2.bl (Bl.aL a)⟩⟩
theorem oL.push (h:oL W rb us u X){f:List (Nat×ay)}(t:f.length=us.length)(r:X.ownsRow W.heap.size 275 2 u us.length (oM rb f))(A:∀(k:Nat) (g:Nat×ay) (x:Nat×List ag),f[k]?=some g->us[k]?=some x->g.1=x.1/\fF X g.2 x.2){i:Nat}{z:List ag}{o:ay}(D:fF X o z)(E:Y.ownsRow W.heap.size 275 2 v6 (us.length+1) (oM rb f++[dh rb i,o]))(p:X.grownBy Y u.ownBlock):oL W rb (us++[(i,z)]) v6 Y:=by
 have y:Bl X Y:=by have key:∀(k:Nat) (b:Array ay) (e:TypeId) (d:Nat×Nat),X.heap[k]?=some (Obj.cells b e d)->e≠275->Y.heap[k]?=X.heap[k]?:=λk b e d a C=>p.block k (TN.1 a).1 (λq=>by obtain⟨H,I,B⟩:=eN r k q.symm;rw[B] at a;cases a;exact C rfl);exact⟨λk b d a=>key k b _ d a (by decide),λk b d a=>key k b _ d a (by decide),λk b d a=>key k b _ d a (by decide),λk b d a=>key k b _ d a (by decide),λk b d a=>key k b _ d a (by decide)⟩
 refine⟨h.aL.trans ((Tn.grown (p:=λk=>W.heap.size<=k) p (λk e=>(r.lt k e).1)).aL h.aL.size (λk e=>e)),f++[(i,o)],by simp[t],?_,λk g x m n=> ?_⟩
 ·rw[NZ,TE];exact E
 ·by_cases a:k<f.length
  ·rw[UZ a] at m;rw[UZ (by omega)] at n;exact⟨(A k g x m n).1,(A k g x m n).2.bl y⟩
  ·have G:k=f.length:=by
    have:=(TZ.1 m).1;simp at this;omega
   subst G;rw[Uq ak,XT] at m;rw[Uq (by omega),t,XT] at n;cases m;cases n;exact⟨rfl,D.bl y⟩
theorem qH.pM (h:qH w0 nd j u8 u9 X)(m:j<nd.length)(f:cS nd[j]=true)(d:Below X.heap.size X Y)(x:Z.ownsRow w0.heap.size 9 1 v6 (((nd.take j).filter cS).length+1) (((nd.take j).filter cS).map aK++[aK nd[j]]))(i:Y.grownBy Z u8.ownBlock)(a:v6.ownBlock=u8.ownBlock\/v6.ownBlock=some Y.heap.size):qH w0 nd (j+1) v6 u9 Z:=by
 have z:(nd.take (j+1)).filter cS=(nd.take j).filter cS++[nd[j]]:=by rw[TW m,VQ];simp[f]
 have A:(nd.take (j+1)).filter (λn=> !cS n)=(nd.take j).filter (λn=> !cS n):=by rw[TW m,VQ];simp[f]
 have r:=h.aL.size;have y:u9.ownBlock=none\/u9.ownBlock≠u8.ownBlock:=by
  cases e:u9.ownBlock with
  |none=>exact .inl rfl
  |some k=>exact .inr (λq=>h.ne k q.symm e)
 have o:=bT (W:=Y) h.ot (λk t=>d.block k (h.ot.lt k t).2);refine⟨(h.aL.trans (d.mono r)).trans ((Tn.grown (p:=λk=>w0.heap.size<=k) i (λk e=>(h.gu.lt k e).1)).aL (TT r d.size) (λk e=>e)),by rw[z,TE,T'];exact x,by rw[A];exact WD o i y,λk b g=> ?_⟩
 ·rcases a with a|a
  ·exact h.ne k (a▸b) g
  ·rw[a] at b;cases b;have:=(o.lt _ g).2;omega
theorem qH.no (h:qH w0 nd j u8 u9 X)(i:j<nd.length)(f:cS nd[j]=false)(d:Below X.heap.size X Y)(x:Z.ownsRow w0.heap.size 9 1 v6 (((nd.take j).filter (λn=> !cS n)).length+1) (((nd.take j).filter (λn=> !cS n)).map aK++[aK nd[j]]))(g:Y.grownBy Z u9.ownBlock)(a:v6.ownBlock=u9.ownBlock\/v6.ownBlock=some Y.heap.size):qH w0 nd (j+1) u8 v6 Z:=by
 have z:(nd.take (j+1)).filter cS=(nd.take j).filter cS:=by rw[TW i,VQ];simp[f]
 have A:(nd.take (j+1)).filter (λn=> !cS n)=(nd.take j).filter (λn=> !cS n)++[nd[j]]:=by rw[TW i,VQ];simp[f]
 have r:=h.aL.size;have y:u8.ownBlock=none\/u8.ownBlock≠u9.ownBlock:=by
  cases e:u8.ownBlock with
  |none=>exact .inl rfl
  |some k=>exact .inr (λq=>h.ne k e q.symm)
 have o:=bT (W:=Y) h.gu (λk t=>d.block k (h.gu.lt k t).2);refine⟨(h.aL.trans (d.mono r)).trans ((Tn.grown (p:=λk=>w0.heap.size<=k) g (λk e=>(h.ot.lt k e).1)).aL (TT r d.size) (λk e=>e)),by rw[z];exact WD o g y,by rw[A,TE,T'];exact x,λk m b=> ?_⟩
 ·rcases a with a|a
  ·exact h.ne k m (a▸b)
  ·rw[a] at b;cases b;have:=(o.lt _ m).2;omega
end
