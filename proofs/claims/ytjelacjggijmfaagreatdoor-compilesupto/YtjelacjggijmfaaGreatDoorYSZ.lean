/- . -/
import Derived.Test.YtjelacjggijmfaaGreatDoorYSR5
import Derived.Test.YtjelacjggijmfaaGreatDoorYWP3
set_option maxHeartbeats 1000000
namespace Go.Proofs.YtjelacjggijmfaaGreatDoor
open Pl Mk Cp Proofs.Tryz
open RowKit
theorem JT (d:List UInt8)(w:ax)(m:d.length<=8388608):
 Calls prog 41 #[.string ⟨d.toArray⟩] w λe E=>(∃z:Int,e= .returned (.int .i64 z)/\((z=0/\kK d)\/(z=9/\¬kK d)))/\Below w.heap.size w E :=by
 have l:=aB (λw=>FL d w m);have F:=aB m;clear m;go_enter func41,ntmps41;go_wp2_with fail
 refine(l.u _).mono ?_;rintro e A ⟨⟨y,J,rfl⟩|⟨ss,c,b,v,k,rfl,s,p,G⟩,g⟩
 ·have j:Hid (¬kK d):=by
   rintro⟨x,f,_⟩;rw[y] at f;cases f
  clear y;go_wp2_with fail
  go_ret;exact⟨⟨_,rfl,.inr ⟨rfl,j.u⟩⟩,g⟩
 ·obtain⟨a,cap,rfl⟩:=p.shape;have D:=O6 k;have q:(⟨c.toArray⟩:az).size<=8388608:=by rw[eh];have:=F.u;omega
  have i:=aB (JX ⟨c.toArray⟩ b ss.length cap a A q s);rw[sI] at i;have r:=aB k;clear k s p G D q;go_wp2_with fail
  refine i.u.mono ?_;rintro e K ⟨⟨I,rfl,h⟩,o⟩;have t:=aB (g.tr o);cases I with
  |false=>
   have j:Hid (¬kK d):=by rintro⟨x,f,C⟩;rw[r.u] at f;cases f;have:=h.2 C;cases this
   clear h g o i l;go_wp2_with fail
   go_ret;exact⟨⟨_,rfl,.inr ⟨rfl,j.u⟩⟩,t.u⟩
  |true=>
   have H:Hid (kK d):=⟨(ss,c),r.u,h.1 rfl⟩;clear h g o i l;go_wp2_with fail
   go_ret;exact⟨⟨_,rfl,.inl ⟨rfl,H.u⟩⟩,t.u⟩
def SY:ay:= .agg #[.slice none 0 0,.slice none 0 0,.int .i64 0,.int .i64 0]
structure zN (l:ag)(fs:List aI)(ef:List bL)(aP:Int)(w:ax)(e:Ending)(w' :ax):Prop where
 aL:Below w.heap.size w w'
 gE:(¬kK l/\e= .returned (.tuple #[SY,.int .i64 9]))\/
  ∃ss c vc vr,Pl.load l=some (ss,c)/\kK l/\e= .returned (.tuple #[.agg #[vc,vr,.int .i64 (jC c ss ef (gQ fs aP)).exit,.int .i64 (jC c ss ef (gQ fs aP)).aP],.int .i64 0])/\
   gj w' w.heap.size vc (jC c ss ef (gQ fs aP)).aH/\fR w' w.heap.size vr (eX (jC c ss ef (gQ fs aP)).aX)
theorem gj.x8 {w:ax}{B:Nat}{v:ay}{ss:List ag}(h:gj w B v ss):∃a cap,v= .slice a ss.length cap/\∃c,(0<ss.length->a=some ⟨c,0,none⟩/\c<w.heap.size)/\na w c 0 ss:=by
 rcases h.2 with⟨d,e⟩|⟨c,cap,f,d,e,g,o,m,p,j⟩
 ·exact⟨none,0,by rw[d,e],0,λl=>by omega,λb i=>by omega⟩
 ·refine⟨_,cap,d,c,λ_=>⟨rfl,(TN.1 g).1⟩,λb i=> ?_⟩;have k:f[b]?=some (aK ss[b]):=by
   have:(f.toList.take (ss.length*1))[b]?=some (aK ss[b]):=by rw[j];simp[i]
   rw[aaa (by omega)] at this;simpa using this
  simp[World.cell?,g,k]
variable {d e j m:ax}{a k l:Nat}{f g h:ay}
theorem KV {ve:ay}{c:ag}{ss:List ag}{X:Wd}(q:Below m.heap.size m j)(r:Below j.heap.size j e)(l:Below e.heap.size e d)(A:j.heap.size<=a)(s:aG e a 97 [f,.string ⟨c.toArray⟩])(v:gj e (a+1) f ss)(i:RW d (e.heap.size+1) e.heap.size ve g h X):
 ∃ap cp,f= .slice ap ss.length cp/\fe m a e.heap.size d.heap.size ap cp c ss ve g h (.slice none 0 0) [] (λ_=>false) X (d.alloc (.cells (madeCells #[.bool false] 256) 4)):=by obtain⟨ap,cp,rfl,p,o,x⟩:=v.x8;have k:Below d.heap.size d (d.alloc (.cells (madeCells #[.bool false] 256) 4)):=aj d _;have b:=l.tr k;have u:=q.size;have y:=r.size;have z:=l.size;refine⟨ap,cp,rfl,s.aE b,⟨p,o,uo x (λt=>b.block p (o t).2)⟩,i.aE k,Uk _ _ _ _,kW.jV d 255,q.trans ((r.mono u).trans (b.mono (by omega))),s.lt,by omega,i.row.lt⟩
theorem Fit.AP {S:List ag}:∀(b:List aI) {a:List aI},Fit S a->(∀f∈b,f.aJ∈S)->Fit S (b.foldl Pl.bp a)
 |[],_,h,_=>h
 |f::e,a,h,c=>by rw[Ux];exact Fit.AP e (h.add (c f (by simp))) (λg d=>c g (by simp[d]))
variable {i:ag}
theorem MK {ss:List ag}{c:ag}(h:Pl.load i=some (ss,c)):c.length<=i.length:=by
 unfold Pl.load at h;split at h
 ·have:=(wI _ _ _ h).2;simp only[UM] at this;omega
 ·cases h
variable {b:List ay}
theorem pZ {w:ax}{B e size n:Nat}{v:ay}(h:w.ownsRow B e size v n b)(c:a <=B):w.ownsRow a e size v n b:=by
 refine⟨h.1,?_⟩;rcases h.2 with h1|⟨g,cap,cur,h1,h2,h3⟩
 ·exact .inl h1
 ·exact .inr ⟨g,cap,cur,h1,by omega,h3⟩
theorem Hf {wr:ax}{ap:Option Addr}{cp:Nat}{c:ag}{ss:List ag}{ve vs:ay}{st:List Bool}{fl:Nat->Bool}{X:Wd}{N:Nat}(h:aG d N 32 b)(i:fe d a k l ap cp c ss ve f g vs st fl X wr)(j:Below wr.heap.size wr e):aG e N 32 b:=(h.aE i.aL).aE j
theorem BL {y:List aI}{ef:List bL}{t:Int}{w wr:ax}{ap:Option Addr}{cp:Nat}{c:ag}{ss:List ag}{ve vs:ay}{st:List Bool}{fl:Nat->Bool}{X v:Wd}(D:Pl.load i=some (ss,c))(z:kK i)(q:jC c ss ef (gQ y t)=v)(C:X=v)(A:aG d w.heap.size 32 b)(u:Below w.heap.size w d)(j:fe d a k l ap cp c ss ve h f vs st fl X wr)(x:fR e (wr.heap.size+2) g (eX X.aX))(r:Below wr.heap.size wr e):
 zN i y ef t w (.returned (.tuple #[.agg #[f,g,.int .i64 X.exit,.int .i64 X.aP],.int .i64 0])) ((((e.setCell ⟨w.heap.size,0,none⟩ f).setCell ⟨w.heap.size,1,none⟩ g).setCell ⟨w.heap.size,2,none⟩ (.int .i64 X.exit)).setCell ⟨w.heap.size,3,none⟩ (.int .i64 X.aP)):=by
 subst C;have H:=A.lt;have G:=j.aL.size;have F:=j.hw;have I:=j.hp;have s:=j.eW.aH.aE r;have o:=dD s (N:=w.heap.size) (by omega);have m:=dD x (N:=w.heap.size) (by omega);have E:=u.trans ((j.aL.mono u.size).trans (r.mono (by omega)));refine⟨(((E.setCell (p:=⟨w.heap.size,0,none⟩) ak _).setCell (p:=⟨w.heap.size,1,none⟩) ak _).setCell (p:=⟨w.heap.size,2,none⟩) ak _).setCell (p:=⟨w.heap.size,3,none⟩) ak _,.inr ⟨ss,c,f,g,D,z,by rw[q],?_,?_⟩⟩
 ·rw[q];exact pZ (dQ (dQ (dQ (dQ s o _ _) o _ _) o _ _) o _ _) (by omega)
 ·rw[q];exact pZ (dQ (dQ (dQ (dQ x m _ _) m _ _) m _ _) m _ _) (by omega)
theorem dX {w:ax}{B e size n:Nat}{v:ay}(h:w.ownsRow B e size v n b):∃a cap,v= .slice a n cap:=by
 rcases h.2 with⟨c,d⟩|⟨f,cap,g,c,_⟩
 ·exact⟨none,0,by rw[c,d]⟩
 ·exact⟨_,cap,c⟩
theorem uL (x:Int):∀u∈[Value.int .i64 x],u.oneCell' =true:=by intro u a;simp at a;subst a;rfl
theorem kI {w:ax}{B e n cap:Nat}(h:w.ownsRow B e 1 (.slice (some ⟨a,0,none⟩) n cap) n b)(c:Nat)(j:c<b.length):w.cell? ⟨a,c,none⟩=some b[c]:=by
 have p:=h.1;rcases h.2 with⟨d,_⟩|⟨l,r,f,d,m,i,o,q,s,k⟩
 ·cases d
 ·cases d;have g:f[c]?=some b[c]:=by
   have:(f.toList.take (n*1))[c]?=some b[c]:=by rw[k];simp[j]
   rw[aaa (by omega)] at this;simpa using this
  simp[World.cell?,i,g]
theorem wrap_small {x:Int}(a:0<=x)(b:x<=4611686018427387904):IntKind.i64.wrap x=x:=by simp[IntKind.wrap,IntKind.bits,IntKind.signed];omega
theorem ji (b a:Nat):(⟨b,0,none⟩:Addr).add a=⟨b,a,none⟩:=by unfold Addr.add;split<;>simp_all
theorem wU {w:ax}{B e n cap:Nat}(h:w.ownsRow B e 1 (.slice (some ⟨a,0,none⟩) n cap) n b):n<=cap:=by
 rcases h.2 with⟨c,_⟩|⟨d,k,m,c,g,o,j,i,l,f⟩
 ·cases c
 ·cases c;omega
open MapKept ChangeMaps Maps
section
variable {bx:Nat} {ap:Option Addr} {n cp:Nat} {vs:ay} {fl:Nat->Bool} {go:Nat} {vg:ay} {ex:Int}
end
theorem aG.cell? {w:ax}{b:Nat}{c:TypeId}{vs:List ay}(h:aG w b c vs){i:Nat}{v:ay}(a:vs[i]?=some v):w.cell? ⟨b,i,none⟩=some v:=by obtain⟨d,rfl⟩:=TZ.1 a;exact h.cell i d
section
variable {w Z:ax} {B bm bx bf bi:Nat} {ap:Option Addr} {cp:Nat} {ss:List ag} {ve:ay} {ef:List bL} {vs vg:ay} {st:List Bool} {fl:Nat->Bool} {go:Nat} {X:Wd}
def Az (w:ax)(v a :ay):Prop:=∀k,a.ownBlock=some k->v.ownBlock=some k\/w.heap.size<=k
end
