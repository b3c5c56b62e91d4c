/- . -/
import Derived.Test.YtjelacjggijmfaaGreatDoorYSB
import Derived.Deep.OwnRows
import Derived.Sort.AtCall
import Derived.BigQuiet
namespace Go.Proofs.YtjelacjggijmfaaGreatDoor
open Pl Mk Cp Proofs.Tryz
open RowKit
variable {c:ax}
theorem _root_.Go.Below.drewN {n:Nat}{w:ax}(h:Below n w c)(k:Nat):Below n w (c.drewN k):=⟨h.os,h.tape,h.output,h.size,h.block⟩
def aG (w:ax)(b:Nat)(a:TypeId)(c:List ay):Prop:=w.heap[b]?=some (.cells c.toArray a (0,0))
theorem aG.bA (w:ax)(a:TypeId)(b:List ay):aG (w.alloc (.cells b.toArray a)) w.heap.size a b:=by show(w.heap.push _)[w.heap.size]?=_;simp
variable {d:TypeId}{e:List ay}
theorem aG.lt {w:ax}{b:Nat}(h:aG w b d e):b<w.heap.size:=(TN.1 h).1
theorem aG.aE {w:ax}{b:Nat}{vs:List ay}(h:aG w b d vs)(a:Below w.heap.size w c):aG c b d vs:=(a.block b h.lt).trans h
theorem aG.aL {w:ax}{b n:Nat}(h:aG w b d e)(f:Below n w c)(a:b<n):aG c b d e:=(f.block b a).trans h
theorem aG.alloc {w:ax}{b:Nat}(h:aG w b d e)(a:Obj):aG (w.alloc a) b d e:=(VU w a b h.lt).trans h
theorem aG.drew {w:ax}{b:Nat}(h:aG w b d e):aG w.drew b d e:=h
theorem aG.cell {w:ax}{b:Nat}(h:aG w b d e)(a:Nat)(c:a<e.length):w.cell? ⟨b,a,none⟩=some e[a]:=by unfold aG at h;simp[World.cell?,h,c]
theorem aG.frozen {w:ax}{b:Nat}(h:aG w b d e)(a:Nat):w.frozen? ⟨b,a,none⟩=false:=by unfold aG at h;simp[World.frozen?,h]
theorem aG.set {w:ax}{b:Nat}(h:aG w b d e)(a:Nat)(u:ay):aG (w.setCell ⟨b,a,none⟩ u) b d (e.set a u):=by unfold aG at*;simp[World.setCell,Array.getElem?_modify,h]
theorem aG.eH {w:ax}{b c:Nat}(h:aG w b d e)(f:b≠c)(a:Nat)(u:ay):aG (w.setCell ⟨c,a,none⟩ u) b d e:=(T5 w ⟨c,a,none⟩ u b f).trans h
theorem aG.grown {w:ax}{b:Nat}{row:Option Nat}(h:aG w b d e)(f:w.grownBy c row)(a:some b≠row):aG c b d e:=(f.block b h.lt a).trans h
theorem aG.bI (B b:Nat)(i:TypeId)(f:List ay){β:Type}:OwnFrom B (λ(_:β) W=>aG W b i f):=λ_ X Y row a g d=>by refine(g.block b (TN.1 a).1 (λe=> ?_)).trans a;obtain⟨_,j,c,h⟩:=d b e.symm;unfold aG at a;rw[a] at c;cases c;cases h
theorem wP (z:ay)(n:Nat):madeCells #[z] n=(List.replicate n z).toArray:=by
 apply Array.ext
 ·simp[madeCells]
 ·intro a c b;simp[madeCells,Nat.mod_one]
theorem aG.jV (w:ax)(a:TypeId)(z:ay)(n:Nat):aG (w.alloc (.cells (madeCells #[z] n) a)) w.heap.size a (List.replicate n z):=by rw[wP];exact aG.bA w a _
end Go.Proofs.YtjelacjggijmfaaGreatDoor
namespace Go.Pl
open Pl Mk Cp Proofs.Tryz
theorem FQ {c:Bs}:∀{f a q b:Nat},Bg c f a q->fa c q b->fa c a b
 |0,_,_,_,h,_=>h.elim
 |_+1,_,_,_,.inl rfl,h=>h
 |_+1,_,_,_,.inr ⟨d,i,h⟩,e=>let ⟨g,hg⟩:=FQ h e;⟨g+1,.inr ⟨d,i,hg⟩⟩
variable {a f:Nat}
theorem fa.trans {c:Bs}{p q:Nat}(h:fa c p q)(b :fa c q a):fa c p a:=let ⟨_,hf⟩:=h;FQ hf b
theorem Hg (A:Aw)(a:Nat):del (del A a) a=del A a:=by funext q;unfold del;split<;>rfl
theorem L9 (A:Aw)(a:pH)(h b:Nat)(c:a.eD=b):gz (del A b) a h=gz A a h:=by unfold gz;rw[c,Hg]
theorem N1 {c:Bs}{m h:Nat}{A:Aw}(g:ly A a h):Spec c m a h A↔Spec c m a h (del A a):=by
 have f:ly (del A a) a h:=by intro q e;unfold del at e;rw[TP rfl] at e;cases e
 by_cases d:a<c.length
 ·rw[lU d,lU d,Hg,L9 A (a_ c a) h a rfl];exact⟨λe=>⟨f,e.2⟩,λe=>⟨g,e.2⟩⟩
 ·rw[uv d,uv d];refine⟨λe=>⟨f,e.2.1,λq b=> ?_⟩,λe=>⟨g,e.2.1,λq b=> ?_⟩⟩
  ·unfold del;rw[TJ b];exact e.2.2 q b
  ·have:=e.2.2 q b;unfold del at this;rwa [TJ b] at this
def iO (b:Nat->Int)(a:Nat)(v:Int):Nat->Int:=λq=>if q=a then v else b q
structure eF (c:Bs)(m p cur h:Nat)(g:Nat->Int)(A:Aw):Prop where
 ge:p<=cur
 lN:fa c 0 cur
 rQ:∀q,p<=q->q<cur->¬fa c 0 q
 vd:g cur=h
 kl:h<=16
 hi:∀q,cur<q->q<=c.length->(g q= -1/\A q=none)\/∃x:Nat,g q=x/\A q=some x
 lo:∀q,q<=cur\/c.length<q->A q=none
 only:∀q x,A q=some x->fa c 0 q
 qw:Spec c m 0 0 (λ_=>none)↔Spec c m cur h A
theorem eF.start (c:Bs)(m:Nat)(a:Nat->Int)(g:a 0=0)(d:∀q,0<q->q<=c.length->a q= -1):eF c m 0 0 0 a (λ_=>none):=⟨TD _,zG c 0,λq _ h=>by omega,g,by omega,λq f b=> .inl ⟨d q f b,rfl⟩,λ_ _=>rfl,λ_ _ e=>(by cases e),Iff.rfl⟩
variable {b:Nat->Int}
theorem eF.skip {c:Bs}{m h:Nat}{A:Aw}(H:eF c m a f h b A)(d:¬fa c 0 a):eF c m (a+1) f h b A:=by
 have:a≠f:=by rintro rfl;exact d H.lN
 have:=H.ge;exact⟨by omega,H.lN,λq g e=>H.rQ q (by omega) e,H.vd,H.kl,H.hi,H.lo,H.only,H.qw⟩
theorem eF.eD {c:Bs}{m h:Nat}{A:Aw}(H:eF c m a f h b A)(d:fa c 0 a):f=a:=by
 have:=H.ge;rcases Yj a f with h|h
 ·exact absurd d (H.rQ a ak h)
 ·omega
theorem eF.done {c:Bs}{m h:Nat}{A:Aw}(H:eF c m f a h b A)(g:¬f<c.length):b c.length=h/\(Spec c m 0 0 (λ_=>none)↔h=0):=by
 have j:=H.ge;have i:=H.lN.le;obtain rfl:a=c.length:=by omega
 refine⟨H.vd,?_⟩;rw[H.qw,uv (by omega)];refine⟨λe=>e.2.1,λe=>⟨λq d=> ?_,e,λq _=>H.lo q (by omega)⟩⟩;rw[H.lo _ (.inl ak)] at d;cases d
theorem eF.ly {c:Bs}{m h:Nat}{A:Aw}(H:eF c m a a h b A){q x:Nat}(i:a<q)(g:q<=c.length):Pl.ly A q x↔¬(0<=b q/\b q≠x):=by
 unfold Pl.ly;rcases H.hi q i g with⟨f,d⟩|⟨y,f,d⟩
 ·rw[f,d];simp
 ·rw[f,d];simp only[WN];constructor
  ·intro e;have:=e y rfl;omega
  ·rintro e z rfl;omega
theorem eF.qd {c:Bs}{m h:Nat}{A:Aw}(H:eF c m a a h b A):del A a=A:=by
 funext q;unfold del;split
 ·rename_i e;subst e;exact(H.lo q (.inl ak)).symm
 ·rfl
theorem eF.Fv {c:Bs}{m h:Nat}{A:Aw}(H:eF c m a a h b A)(d:a<c.length)(f:h<iK (opAt c a)):¬Spec c m 0 0 (λ_=>none):=by rw[H.qw,lU d];rintro⟨_,_,_,e,_⟩;omega
theorem eF.Nt {c:Bs}{m h:Nat}{A:Aw}(H:eF c m a a h b A)(d:a<c.length)(f:16<ey (opAt c a) h):¬Spec c m 0 0 (λ_=>none):=by rw[H.qw,lU d];rintro⟨_,_,_,_,e,_⟩;omega
variable {g:pH}
theorem wS {A:Aw}{h:Nat}(a:g.op=6):gz A g h=put (del A g.eD) (g.next+g.first) (ey g.op h):=by unfold gz;rw[TP a]
theorem yN {A:Aw}{h:Nat}(a:g.op≠6):gz A g h=del A g.eD:=by unfold gz;rw[TJ a]
theorem eF.E8 {c:Bs}{m h:Nat}{A:Aw}(H:eF c m a a h b A)(d:a<c.length)(g:opAt c a=6)(f:¬fa c 0 ((a_ c a).next+(a_ c a).first)):¬Spec c m 0 0 (λ_=>none):=by rw[H.qw,lU d];rintro⟨_,i,_,_,_,_,e⟩;rw[wS g] at e;have:=OZ e (q:=(a_ c a).next+(a_ c a).first) (x:=ey (opAt c a) h) (by unfold put;rw[TP rfl];rfl);exact f ((H.lN.next d i).trans this)
theorem eF.Qr {c:Bs}{m h:Nat}{A:Aw}(H:eF c m a a h b A)(f:a<c.length)(i:opAt c a=6)(g:(a_ c a).next+(a_ c a).first<=c.length)(d:0<=b ((a_ c a).next+(a_ c a).first)/\b ((a_ c a).next+(a_ c a).first)≠(ey (opAt c a) h:Nat)):¬Spec c m 0 0 (λ_=>none):=by rw[H.qw,lU f];rintro⟨_,j,_,_,_,e,_⟩;have:=e i;rw[H.qd,H.ly (by have:=sO j;omega) g] at this;exact this d
def jl (c:Bs)(a h:Nat)(b:Nat->Int):Nat->Int:=if opAt c a=6 then iO b ((a_ c a).next+(a_ c a).first) (ey (opAt c a) h:Nat) else b
theorem eF.zt {c:Bs}{m h:Nat}{A:Aw}(H:eF c m a a h b A){q:Nat}(g:a<q)(f:q<=c.length):
 (jl c a h b q= -1/\gz A (a_ c a) h q=none)\/∃x:Nat,jl c a h b q=x/\gz A (a_ c a) h q=some x:=by
 unfold jl;by_cases d:opAt c a=6
 ·rw[TP d,wS d];have:(a_ c a).eD=a:=rfl;rw[this,H.qd];unfold iO put;by_cases e:q=(a_ c a).next+(a_ c a).first
  ·rw[TP e,TP e];exact .inr ⟨_,rfl,rfl⟩
  ·rw[TJ e,TJ e];exact H.hi q g f
 ·rw[TJ d,yN d];have:(a_ c a).eD=a:=rfl;rw[this,H.qd];exact H.hi q g f
theorem eF.uf {c:Bs}{m h:Nat}{A:Aw}(H:eF c m a a h b A)(k:a<c.length)(i:cd c a)(j:0<=jl c a h b (a_ c a).next/\jl c a h b (a_ c a).next≠(ey (opAt c a) h:Nat)):¬Spec c m 0 0 (λ_=>none):=by
 rw[H.qw,lU k];rintro⟨_,_,_,_,_,_,f,g⟩;cases f with
 |zero=>exact g
 |succ f=>
  have l:=g.1;rcases H.zt (sO i) (xe i) with⟨d,e⟩|⟨y,d,e⟩
  ·rw[d] at j;omega
  ·have:=l y e;rw[d] at j;omega
theorem eF.step {c:Bs}{m h:Nat}{A:Aw}(H:eF c m a a h b A)(j:a<c.length)(i:cd c a)(u:iD m (a_ c a))(B:iK (opAt c a)<=h)(l:ey (opAt c a) h<=16)(t:opAt c a=6->fa c 0 ((a_ c a).next+(a_ c a).first)/\¬(0<=b ((a_ c a).next+(a_ c a).first)/\b ((a_ c a).next+(a_ c a).first)≠(ey (opAt c a) h:Nat)))(D:¬(0<=jl c a h b (a_ c a).next/\jl c a h b (a_ c a).next≠(ey (opAt c a) h:Nat))):
 eF c m (a+1) (a_ c a).next (ey (opAt c a) h) (iO (jl c a h b) (a_ c a).next (ey (opAt c a) h:Nat)) (del (gz A (a_ c a) h) (a_ c a).next):=by
 have s:=sO i;have E:=xe i;have F:Pl.ly (gz A (a_ c a) h) (a_ c a).next (ey (opAt c a) h):=by
  intro y f;rcases H.zt s E with⟨g,d⟩|⟨z,g,d⟩
  ·rw[d] at f;cases f
  ·rw[d] at f;cases f;rw[g] at D;omega
 have C:=H.lN.next j i;have o:∀q x,gz A (a_ c a) h q=some x->fa c 0 q:=by
  intro q x e;by_cases k:opAt c a=6
  ·rw[wS k] at e;unfold put at e;by_cases p:q=(a_ c a).next+(a_ c a).first
   ·rw[p];exact(t k).1
   ·rw[TJ p,show (a_ c a).eD=a from rfl,H.qd] at e;exact H.only q x e
  ·rw[yN k,show (a_ c a).eD=a from rfl,H.qd] at e;exact H.only q x e
 refine⟨s,C,λq g d w=> ?_,by unfold iO;rw[TP rfl],l,λq g d=> ?_,λq k=> ?_,λq x e=> ?_,?_⟩
 ·rcases H.lN.rQ w j i with k|k<;>omega
 ·unfold iO del;rw[TJ (by omega),TJ (by omega)];exact H.zt (by omega) d
 ·unfold del;split
  ·rfl
  ·rename_i I;cases e:gz A (a_ c a) h q with
   |none=>rfl
   |some x=>
    exfalso;have n:=o q x e;have G:=n.le;rcases H.lN.rQ n j i with k' |k'
    ·have v:gz A (a_ c a) h q=none:=by
      by_cases r:opAt c a=6
      ·rw[wS r];unfold put;rw[TJ (by omega),show (a_ c a).eD=a from rfl,H.qd];exact H.lo q (.inl k')
      ·rw[yN r,show (a_ c a).eD=a from rfl,H.qd];exact H.lo q (.inl k')
     rw[v] at e;cases e
    ·omega
 ·unfold del at e;split at e
  ·cases e
  ·exact o q x e
 ·rw[H.qw,lU j,<-N1 F];refine⟨λe=>e.2.2.2.2.2.2,λe=>⟨λy f=> ?_,i,u,B,l,λk=> ?_,e⟩⟩
  ·rw[H.lo _ (.inl ak)] at f;cases f
  ·obtain⟨g,d⟩:=t k;rw[H.qd,H.ly (by omega) g.le];exact d
