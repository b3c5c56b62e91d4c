/- . -/
import Derived.Test.YtjelacjggijmfaaGreatDoorYA
namespace Go.Pl
open Pl Mk Cp Proofs.Tryz
abbrev Bs:=List UInt8
abbrev Aw:=Nat->Option Nat
def two (c:Bs)(a:Nat):Nat:=256*(c.getD a 0).toNat+(c.getD (a+1) 0).toNat
def ee (op:Nat):Nat:=if op=1\/op=4\/op=8 then 2 else if op=2\/op=6\/op=7 then 3 else if op=3 then 5 else if op=5 then 1 else 0
structure pH where
 op:Nat
 eD:Nat
 next:Nat
 first:Nat
 s7:Nat
def opAt (c:Bs)(a:Nat):Nat:=(c.getD a 0).toNat
def a_ (c:Bs)(a:Nat):pH:=⟨opAt c a,a,a+ee (opAt c a),if ee (opAt c a)=1 then 0 else if ee (opAt c a)=2 then opAt c (a+1) else two c (a+1),if ee (opAt c a)=5 then two c (a+3) else 0⟩
def cd (c:Bs)(a:Nat):Prop:=ee (opAt c a)≠0/\a+ee (opAt c a)<=c.length
def iD (m:Nat)(a:pH):Prop:=(a.op=1->a.first<=1)/\(a.op=2\/a.op=7->a.first<m)/\(a.op=3->a.first<m/\a.s7<m)
def iK (op:Nat):Nat:=if op=5 then 2 else if op=6 then 1 else 0
def xh (op:Nat):Nat:=if op=1\/op=2\/op=3\/op=4\/op=5 then 1 else 0
def ey (op h:Nat):Nat:=h-iK op+xh op
def del (A:Aw)(a:Nat):Aw:=λq=>if q=a then none else A q
def put (A:Aw)(a h:Nat):Aw:=λq=>if q=a then some h else A q
def ly (A:Aw)(a h:Nat):Prop:=∀q,A a=some q->q=h
def gz (A:Aw)(a:pH)(h:Nat):Aw:=if a.op=6 then put (del A a.eD) (a.next+a.first) (ey a.op h) else del A a.eD
def vy (c:Bs)(m:Nat):Nat->Nat->Nat->Aw->Prop
 |0,_,_,_=>False
 |f+1,a,h,A=>ly A a h/\((a<c.length/\cd c a/\iD m (a_ c a)/\iK (opAt c a)<=h/\ey (opAt c a) h<=16/\
  (opAt c a=6->ly (del A a) ((a_ c a).next+(a_ c a).first) (ey (opAt c a) h))/\vy c m f (a_ c a).next (ey (opAt c a) h) (gz A (a_ c a) h))\/
  (¬a<c.length/\h=0/\∀q,q≠a->A q=none))
def Spec (c:Bs)(m a h:Nat)(A:Aw):Prop:=∃f,vy c m f a h A
variable {g:Nat}
theorem uv {c:Bs}{m h:Nat}{A:Aw}(d:¬g<c.length):Spec c m g h A↔ly A g h/\h=0/\∀q,q≠g->A q=none:=by
 constructor
 ·rintro⟨f,e⟩;cases f with
  |zero=>exact e.elim
  |succ f=>
   obtain⟨b,a|a⟩:=e
   ·exact absurd a.1 d
   ·exact⟨b,a.2⟩
 ·rintro⟨b,a⟩;exact⟨1,b,.inr ⟨d,a⟩⟩
theorem lU {c:Bs}{m h:Nat}{A:Aw}(n:g<c.length):Spec c m g h A↔ly A g h/\cd c g/\iD m (a_ c g)/\iK (opAt c g)<=h/\ey (opAt c g) h<=16/\
 (opAt c g=6->ly (del A g) ((a_ c g).next+(a_ c g).first) (ey (opAt c g) h))/\Spec c m (a_ c g).next (ey (opAt c g) h) (gz A (a_ c g) h):=by
 constructor
 ·rintro⟨f,o⟩;cases f with
  |zero=>exact o.elim
  |succ f=>
   obtain⟨k,i|i⟩:=o
   ·obtain⟨_,a,b,d,e,l,j⟩:=i;exact⟨k,a,b,d,e,l,f,j⟩
   ·exact absurd n i.1
 ·rintro⟨k,a,b,d,e,l,f,j⟩;exact⟨f+1,k,.inl ⟨n,a,b,d,e,l,j⟩⟩
def Bg (c:Bs):Nat->Nat->Nat->Prop
 |0,_,_=>False
 |f+1,a,q=>q=a\/(a<c.length/\cd c a/\Bg c f (a_ c a).next q)
def fa (c:Bs)(a q:Nat):Prop:=∃f,Bg c f a q
theorem zG (c:Bs)(a:Nat):fa c a a:=⟨1,.inl rfl⟩
theorem F1 {c:Bs}:∀{f d q:Nat},Bg c f d q->q<c.length->cd c q->fa c d (a_ c q).next
 |0,_,_,h,_,_=>h.elim
 |_+1,_,_,.inl rfl,a,b=>⟨2,.inr ⟨a,b,.inl rfl⟩⟩
 |_+1,_,_,.inr ⟨e,i,h⟩,a,b=>let ⟨g,hg⟩:=F1 h a b;⟨g+1,.inr ⟨e,i,hg⟩⟩
theorem fa.next {c:Bs}{q:Nat}(h:fa c g q)(b:q<c.length)(a:cd c q):fa c g (a_ c q).next:=let ⟨_,hf⟩:=h;F1 hf b a
theorem sO {c:Bs}(a:cd c g):g<(a_ c g).next:=by have:=a.1;simp only[a_];omega
theorem xe {c:Bs}(a:cd c g):(a_ c g).next<=c.length:=a.2
theorem Av {c:Bs}:∀{f a q:Nat},Bg c f a q->a<=q
 |0,_,_,h=>h.elim
 |_+1,_,_,.inl rfl=>TD _
 |_+1,_,_,.inr ⟨_,b,h⟩=>TT (VA (sO b)) (Av h)
theorem Ij {c:Bs}:∀{f a q:Nat},Bg c f a q->a<=c.length->q<=c.length
 |0,_,_,h,_=>h.elim
 |_+1,_,_,.inl rfl,b=>b
 |_+1,_,_,.inr ⟨_,d,h⟩,_=>Ij h (xe d)
theorem fa.le {c:Bs}{q:Nat}(h:fa c 0 q):q<=c.length:=let ⟨_,hf⟩:=h;Ij hf (TS _)
theorem H' {c:Bs}:∀{f i d a q:Nat},Bg c f d a->Bg c i d q->a<c.length->cd c a->q<=a\/(a_ c a).next<=q
 |0,_,_,_,_,h,_,_,_=>h.elim
 |_,0,_,_,_,_,h,_,_=>h.elim
 |_+1,_+1,_,_,_,.inl rfl,.inl rfl,_,_=> .inl ak
 |_+1,_+1,_,_,_,.inl rfl,.inr ⟨_,_,h⟩,_,_=> .inr (Av h)|_+1,_+1,_,_,_,.inr ⟨_,b,h⟩,.inl rfl,_,_=> .inl (TT (VA (sO b)) (Av h))|_+1,_+1,_,_,_,.inr ⟨_,_,h⟩,.inr ⟨_,_,g⟩,e,b=>H' h g e b
theorem fa.rQ {c:Bs}{a q:Nat}(h:fa c 0 a)(b :fa c 0 q)(e:a<c.length)(d:cd c a):q<=a\/(a_ c a).next<=q:=let ⟨_,hf⟩:=h;let ⟨_,hg⟩:=b;H' hf hg e d
theorem Gy {c:Bs}{m:Nat}:∀{f d h:Nat} {A:Aw} {g q:Nat},vy c m f d h A->Bg c g d q->q<c.length->cd c q/\iD m (a_ c q)
 |0,_,_,_,_,_,h,_,_=>h.elim
 |_+1,_,_,_,0,_,_,h,_=>h.elim
 |f+1,d,h,A,g+1,q,l,a,e=>by
  obtain⟨_,⟨b,j,k,_,_,_,i⟩|⟨b,_⟩⟩:=l
  ·rcases a with rfl|⟨_,_,a⟩
   ·exact⟨j,k⟩
   ·exact Gy i a e
  ·rcases a with rfl|⟨hp',_⟩
   ·exact absurd e b
   ·exact absurd hp' b
theorem Px {c:Bs}{m h q:Nat}{A:Aw}(a:Spec c m g h A)(b:fa c g q)(d:q<c.length):cd c q/\iD m (a_ c q):=let ⟨_,hf⟩:=a;let ⟨_,hg⟩:=b;Gy hf hg d
theorem GR {c:Bs}{m:Nat}:∀{f a h:Nat} {A:Aw} {q x:Nat},vy c m f a h A->A q=some x->fa c a q
 |0,_,_,_,_,_,h,_=>h.elim
 |f+1,a,h,A,q,x,k,d=>by
  by_cases b:q=a
  ·subst b;exact zG c q
  obtain⟨_,⟨e,l,p,_,_,_,o⟩|⟨e,_,i⟩⟩:=k
  ·have:∃y,gz A (a_ c a) h q=some y:=by
    unfold gz put del;split
    ·dsimp only;split
     ·exact⟨_,rfl⟩
     ·rw[TJ (by exact b)];exact⟨x,d⟩
    ·dsimp only;rw[TJ (by exact b)];exact⟨x,d⟩
   obtain⟨y,j⟩:=this;obtain⟨n,g⟩:=GR o j;exact⟨n+1,.inr ⟨e,l,g⟩⟩
  ·rw[i q b] at d;cases d
theorem OZ {c:Bs}{m h q x:Nat}{A:Aw}(a:Spec c m g h A)(b:A q=some x):fa c g q:=let ⟨_,hf⟩:=a;GR hf b
def aY:Nat->Bs->Option (List Bs×Bs)
 |0,a=>some ([],a)|n+1,a=>if 2<=a.length/\2+two a 0<=a.length then(aY n (a.drop (2+two a 0))).map λx=>((a.drop 2).take (two a 0)::x.1,x.2) else none
def load (s:Bs):Option (List Bs×Bs):=if 4<=s.length/\s.take 2=[80,49]/\two s 2<=1000 then aY (two s 2) (s.drop 4) else none
def kK (s:Bs):Prop:=∃x,load s=some x/\Spec x.2 x.1.length 0 0 (λ_=>none)
theorem wI:∀(n:Nat) (a:Bs) (x:List Bs×Bs),aY n a=some x->x.1.length=n/\x.2.length<=a.length
 |0,a,x,h=>by cases h;exact⟨rfl,TD _⟩
 |n+1,a,x,h=>by
  unfold aY at h;split at h
  ·cases e:aY n (a.drop (2+two a 0)) with
   |none=>rw[e] at h;cases h
   |some y=>rw[e] at h;cases h;have:=wI n _ y e;simp only[TK,UM] at this⊢;omega
  ·cases h
theorem M' (n:Nat)(a:Bs)(h:2<=a.length/\2+two a 0<=a.length)(b:List Bs):
 (aY (n+1) a).map (λx=>(b++x.1,x.2))=(aY n (a.drop (2+two a 0))).map (λx=>((b++[(a.drop 2).take (two a 0)])++x.1,x.2)):=by rw[aY,TP h,Option.map_map];congr 1;funext x;simp
theorem Pk (n:Nat)(a:Bs)(h:¬(2<=a.length/\2+two a 0<=a.length)):aY (n+1) a=none:=by rw[aY,TJ h]
theorem uN (c:Bs)(a:Nat):opAt c a<256:=(c.getD a 0).toNat_lt
theorem H8 (c:Bs)(a:Nat):two c a<65536:=by have d:=(c.getD a 0).toNat_lt;have b:=(c.getD (a+1) 0).toNat_lt;unfold two;omega
