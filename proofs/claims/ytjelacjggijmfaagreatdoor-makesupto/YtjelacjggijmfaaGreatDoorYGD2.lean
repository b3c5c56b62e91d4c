/- . -/
import Derived.Test.YtjelacjggijmfaaGreatDoorYGB1
import Derived.Deep.RegionHeldLaw
set_option linter.all false
set_option maxHeartbeats 4000000
namespace Go.Proofs.YtjelacjggijmfaaGreatDoor
open Pl Mk Cp Proofs.Tryz
open RowKit MapKept ChangeMaps Maps
variable {b d e a:az}{W X:ay}{F G:dS}{c:Ad}{rb:Nat->Nat}{s:St}{m o p r t:Nat}
def Tryz.Uo:(Tryz.prog.info? 202).map (λa=>(a.zero,a.size,a.bytes))=some (some (.agg #[ε,ι 0]),2,24):=by kernel_rfl
def ko(b:Nat->Nat):ib->az
 |none=> .pointer none
 |some a=>dE b a
def IA(x:aj)(n:Int):∀u∈[aK x,ι n],u.oneCell' =true:=by
 intro u a;simp only[YD,ZC,k8]at a;obtain e|e:=a
 ·subst e;rfl
 subst e;rfl
structure BW(W0:ay) where
 val:ay
 ok:μ W0 val
def BW.cell{b:ay}{a:Addr}{v:az}(h:b.cell? a=some v)(p:BW b):p.val.cell? a=some v:=(p.ok.cell (p:=a) (ZO b _ h)).trans h
def xS{g:Program}{Q:Exit->Act->ay->Prop}{a:Act}{f:List Oper}(d:ay)(k:μ d W.drew)(i:g.follows .mixedOrders=true)(l:Region.lexB .any f.toArray=true)(h:wpQuiet g f.toArray (λb=>∃e:BW d,b =e.val) (λj=>∀b,(∃e:BW d,b =e.val)->Q .normal j b) f a):(Code.region m f.toArray true).wp g Q a W:=wp_region_quiet (C:=λb=>∃e:BW d,b =e.val) i l ⟨⟨W.drew,k⟩,rfl⟩ (by simpa using h)
section
def dU.XH{a:fY}{f:fv}(h:dU W F (.slice a m o) f):m=f.length/\∃b d,0<f.length->a=some ⟨b,d,none⟩/\b<W.heap.size/\eE W b d f:=by
 obtain⟨i,g⟩|⟨b,d,c,i,g,k,j,l⟩:=h
 ·cases i;subst g;exact⟨rfl,0,0,λe=>by simp at e⟩
 cases i;exact⟨rfl,b,d,λ_=>⟨rfl,g,j⟩⟩
def lT{a:TypeId}{g j:f'}(h:aF W m a g)(f:W.ownsRow p o t b r j)(i:a≠o):some m≠b.ownBlock:=λq=>by have⟨k,l,d⟩:=dZ f m q.symm;unfold aF at h;rw[h]at d;cases d;exact i rfl
def Kd(h:bE W F c rb s){f:Rl}(p:s.aG[m]?=some f)(i:aF W (rb m) 273 [d,e,b])(q:dU W F d f.tg)(n:dU W F e f.nd)(k:oi W F (.aI m) b f.cs){x:aj×Nat}(g:X.ownsRow 0 202 2 a (f.cs.length+1) (oJ f.cs++[aK x.1,ι (x.2:Int)]))(l:W.grownBy X b.ownBlock)(o:a.ownBlock=b.ownBlock\/a.ownBlock=some W.heap.size):
 aF X (rb m) 273 [d,e,b]/\∃j,bE (X.ψ (rb m) 2 a) j c rb {s with aG:=s.aG.set m {f with cs:=f.cs++[x]}}/\Fr F j W (X.ψ (rb m) 2 a):=
 ⟨i.grown l (lT i k.1 (by decide)),_,h.WB p i q n k g l o⟩
def NB(op:ib)(O:Ln)(h:bE W F c rb s)(ao:∀a,op=some a->a<s.aG.length)(aT:∀name,(s.of name).length<=1073741824)(aU:∀b∈s.aG,b.tg.length<=1073741824)(aY:∀b∈s.aG,b.cs.length<4294967296):
 Calls prog 136 #[π c.rd,ko rb op,dQ O] W λe W'=>e=.returned (ι ((gH s op O).1:Int))/\∃F',bE W' F' c rb (gH s op O).2/\Fr F F' W W':=by
 unfold π ι;obtain⟨i,p,L,g⟩:=O;have R:=(X5 W.heap.size W).alloc ax (.cells #[ι i,ι p,σ L,σ g] 164);cases op with
 |none=>
  have HF:=Fr.aD (F:=F) R;have t:gH s none ⟨i,p,L,g⟩=(1,s):=rfl;rw[t];clear ao t;go_in;unfold dQ ko;go_wp2
  go_ret;exact⟨rfl,F,h.aD R,HF⟩
 |some a=>
  have⟨i0,aE,aH,aL,aA⟩:=Y1 Tryz.Uo;have hi:=ao a rfl;have hr:=X9 hi;have hm:=Ym hi;have aX:=aU _ hm;have aZ:=aY _ hm;have t:gH s (some a) ⟨i,p,L,g⟩=if s.aG[a].cs.length=0/\(s.aG[a].tg.any λG=>(s.of G).any (lD s))=true then(6,s) else(0,{s with aG:=s.aG.set a {s.aG[a]with cs:=s.aG[a].cs++[(g,i)]}}):=by unfold gH;simp only[hr]
  generalize s.aG[a]=b at*;have⟨vt,vn,vc,o,z,K,I⟩:=h.aG a b hr;have⟨H,A,aM⟩:=fp I.1;have⟨J,M,aO⟩:=z.tQ.sh;subst aM aO;have X:=o.lt;have e0:=o.cell? (i:=0) rfl;have e2:=o.cell? (i:=2) rfl;have c1:=h.row.cell? (i:=1) rfl;have⟨vp,ll,az⟩:=h.iX aT;obtain⟨-,tb,tO,Y⟩:=z.XH;have CH:∀w,μ W w->γ 181 #[π c.bb,.slice J b.tg.length M] w (.bool (b.tg.any λG=>(s.of G).any (lD s))):=λw d=>by rw[<-h.any b.tg];exact LR b.tg J M tb tO (az.aD d) (λe=>⟨(Y e).1,Yo (Y e).2.1 d.size,(Y e).2.2.aP d (Y e).2.1⟩) aX
  have v:Hid (∀w,μ W w->bE w F c rb s/\Fr F F W w/\aF w (rb a) 273 [.slice J b.tg.length M,vn,.slice H b.cs.length A]/\dU w F (.slice J b.tg.length M) b.tg/\dU w F vn b.nd/\oi w F (.aI a) (.slice H b.cs.length A) b.cs):=λw d=>by
   have h':=h.aD d;refine⟨h',Fr.aD d,o.aD d,?_,?_,?_⟩
   ·exact z.same d.size (λk hk e=>⟨d.block k hk,e⟩)
   ·exact K.same d.size (λk hk e=>⟨d.block k hk,e⟩)
   exact I.same (λk e=>⟨d.block k (h.lt e),e⟩)
  clear az Y o z K I;generalize (b.tg.any λG=>(s.of G).any (lD s))=qb at*;clear ao;have rL:=aF.bq W 164 [ι i,ι p,σ L,σ g];obtain⟨l,ae⟩:∃l,l=W.alloc (.cells #[ι i,ι p,σ L,σ g] 164):=⟨_,rfl⟩;have av:aF l W.heap.size 164 [ι i,ι p,σ L,σ g]:=by rw[ae];exact rL
  have N:μ W l:=by rw[ae];exact R
  have g0:∀j:BW l,j.val.χ (rb a) 0=some (.slice J b.tg.length M):=BW.cell ((N.cell (p:=η (rb a) 0) X).trans e0);have g2:∀j:BW l,j.val.χ (rb a) 2=some (.slice H b.cs.length A):=BW.cell ((N.cell (p:=η (rb a) 2) X).trans e2);have g1:∀j:BW l,j.val.χ c.rd 1=some (π c.bb):=BW.cell ((N.cell (p:=η c.rd 1) h.row.lt).trans c1);have aB:∀j:BW l,Calls prog 181 #[π c.bb,.slice J b.tg.length M] j.val λe am=>e=.returned (.bool qb)/\∃p':BW l,am =p'.val:=λj=>(CH j.val (N.tr j.ok)).mono (λe am ⟨h1,h2⟩=>⟨h1,⟨am,j.ok.tr h2⟩,rfl⟩);have aS:Nonempty (BW l):=⟨⟨l,X5 _ _⟩⟩;have ap:=aC ae;clear ae rL e0 e2 c1 CH;by_cases T:b.cs.length=0
  ·have:((b.cs.length:Int)==0)=true:=by rw[Zj];omega
   cases qb with
   |true=>
    have y:Hid (gH s (some a) ⟨i,p,L,g⟩=(6,s)):=by show _=_;rw[t,Yd ⟨T,rfl⟩]
    clear t T;go_in;unfold dQ ko dE;go_upto_region 3 with fail
    rw[<-ap.u];refine xS l (X5 _ l).drew (by kernel_rfl) (by kernel_rfl) ?_
    repeat (first|go_big_quiet_skip|quiet_step (exact aB _))
    refine afN ?_;rintro _⟨j,rfl⟩;obtain⟨w,d⟩:=j;obtain⟨m,f,-⟩:=v w (N.tr d);have HF:=f;simp only;clear f d g0 g1 g2 aS v;go_wp2
    go_ret;exact⟨by rw[y.u];rfl,F,by rw[y.u];exact m,HF⟩
   |false=>
    have y:Hid (gH s (some a) ⟨i,p,L,g⟩=(0,{s with aG:=s.aG.set a {b with cs:=b.cs++[(g,i)]}})):=by show _=_;rw[t,Yb (by simp)]
    clear t T;go_in;unfold dQ ko dE;go_upto_region 3 with fail
    rw[<-ap.u];refine xS l (X5 _ l).drew (by kernel_rfl) (by kernel_rfl) ?_
    repeat (first|go_big_quiet_skip|quiet_step (exact aB _))
    refine afN ?_;rintro _⟨j,rfl⟩;obtain⟨w,d⟩:=j;have q:=N.tr d;have n:=av.aD d;have:=n.cell? (i:=0) rfl;have:=n.cell? (i:=3) rfl;have:=Yo X q.size;have⟨m,f,o,z,K,I⟩:=v w q;have:=o.cell? (i:=2) rfl;have r:μ w (w.drew.alloc (.cells #[σ g,ι i] 202)):=((X5 w.heap.size w).drew).alloc ax _;have⟨P,V,ab,aa,Q,E⟩:=v _ (q.tr r);have U:=aC E
    have ah:=aF.bq w.drew 202 [σ g,ι i];simp only;clear f o z K I E n r q d g0 g1 g2 aS v;go_wp2
    go_region_law (first|(refine qZ rfl (.tmp 30) (.tmp 36) 195 rfl 0 202 i0 _ 2 24 underlying195 aE aH aL aA rfl (by decide) (.slice H b.cs.length A) b.cs.length (oJ b.cs) (by rfl) U.1 (η w.heap.size 0) 1 1 [aK g,ι i] (by rfl) (by rfl) (λaN u hj=>by rw[jx];exact ah.cell? hj) (IA g i) (by unfold maxLen;omega) (by omega) (Yh _) ?_;intro v6 w6 C B Z;obtain⟨a6,c6,rfl⟩:=fp C;have⟨D,S⟩:=Kd (x:=(g,i)) P hr ab aa Q U C B Z;have:=D.cell? (i:=2) rfl;have:=D.frozen 2;clear C B Z D))
    all_goals go_wp2
    all_goals go_ret
    all_goals(obtain ⟨G6,m6,f6⟩:=S;exact⟨by rw[y.u];rfl,G6,by rw[y.u];exact m6,V.trans f6⟩)
  have:((b.cs.length:Int)==0)=false:=by rw[Yi];omega
  have y:Hid (gH s (some a) ⟨i,p,L,g⟩=(0,{s with aG:=s.aG.set a {b with cs:=b.cs++[(g,i)]}})):=by show _=_;rw[t,Yb (λe=>T e.1)]
  clear t T;go_in;unfold dQ ko dE;go_upto_region 3 with fail
  rw[<-ap.u];refine xS l (X5 _ l).drew (by kernel_rfl) (by kernel_rfl) ?_
  repeat (first|go_big_quiet_skip|quiet_step (exact aB _))
  refine afN ?_;rintro _⟨j,rfl⟩;obtain⟨w,d⟩:=j;have q:=N.tr d;have n:=av.aD d;have:=n.cell? (i:=0) rfl;have:=n.cell? (i:=3) rfl;have:=Yo X q.size;have⟨m,f,o,z,K,I⟩:=v w q;have:=o.cell? (i:=2) rfl;have r:μ w (w.drew.alloc (.cells #[σ g,ι i] 202)):=((X5 w.heap.size w).drew).alloc ax _;have⟨P,V,ab,aa,Q,E⟩:=v _ (q.tr r);have U:=aC E
  have ah:=aF.bq w.drew 202 [σ g,ι i];simp only;clear f o z K I E n r q d g0 g1 g2 aS v;go_wp2
  go_region_law (first|(refine qZ rfl (.tmp 30) (.tmp 36) 195 rfl 0 202 i0 _ 2 24 underlying195 aE aH aL aA rfl (by decide) (.slice H b.cs.length A) b.cs.length (oJ b.cs) (by rfl) U.1 (η w.heap.size 0) 1 1 [aK g,ι i] (by rfl) (by rfl) (λaN u hj=>by rw[jx];exact ah.cell? hj) (IA g i) (by unfold maxLen;omega) (by omega) (Yh _) ?_;intro v6 w6 C B Z;obtain⟨a6,c6,rfl⟩:=fp C;have⟨D,S⟩:=Kd (x:=(g,i)) P hr ab aa Q U C B Z;have:=D.cell? (i:=2) rfl;have:=D.frozen 2;clear C B Z D))
  all_goals go_wp2
  all_goals go_ret
  all_goals(obtain ⟨G6,m6,f6⟩:=S;exact⟨by rw[y.u];rfl,G6,by rw[y.u];exact m6,V.trans f6⟩)
end


