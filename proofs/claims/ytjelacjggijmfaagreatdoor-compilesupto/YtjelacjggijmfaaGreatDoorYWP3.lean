/- . -/
import Derived.Test.YtjelacjggijmfaaGreatDoorYPWr
import Derived.Test.YtjelacjggijmfaaGreatDoorYRF6
import Derived.Deep.RegionHeld3
import Derived.Deep.DrawnRows
set_option maxHeartbeats 2000000
set_option maxRecDepth 20000
namespace Go.Proofs.YtjelacjggijmfaaGreatDoor
open Pl Mk Cp Proofs.Tryz
open RowKit MapKept ChangeMaps Maps
variable {a:Nat->Prop}
section
attribute [local go_sem↓] Xg Xh
structure Tn (p:Nat->Prop)(w w' :ax):Prop where
 os:w'.os=w.os
 tape:w'.tape=w.tape
 output:w'.output=w.output
 size:w.heap.size<=w'.heap.size
 block:∀k,k<w.heap.size->¬p k->w'.heap[k]?=w.heap[k]?
theorem Tn.refl (a:Nat->Prop)(w:ax):Tn a w w:=⟨rfl,rfl,rfl,TD _,λ_ _ _=>rfl⟩
theorem Tn.trans {p:Nat->Prop}{a b c:ax}(h:Tn p a b)(d:Tn p b c):Tn p a c:=⟨d.os.trans h.os,d.tape.trans h.tape,d.output.trans h.output,TT h.size d.size,λk f e=>(d.block k (T7 f h.size) e).trans (h.block k f e)⟩
theorem Tn.aE {p:Nat->Prop}{w w' :ax}(h:Below w.heap.size w w'):Tn p w w' :=⟨h.os,h.tape,h.output,h.size,λk a _=>h.block k a⟩
theorem Tn.mono {q:Nat->Prop}{w w' :ax}(h:Tn a w w')(d:∀k,a k->q k):Tn q w w' :=⟨h.os,h.tape,h.output,h.size,λk c b=>h.block k c (λe=>b (d k e))⟩
theorem Tn.set {p:Nat->Prop}(w:ax)(a:Addr)(u:ay)(c:p a.block):Tn p w (w.setCell a u):=
 have b:=(TF 0 w).setCell (p:=a) (TS _) u
 ⟨b.os,b.tape,b.output,b.size,λk _ d=>T5 w a u k (λe=>d (by rw[e];exact c))⟩
theorem Tn.grown {p:Nat->Prop}{w w' :ax}{a:Option Nat}(h:w.grownBy w' a)(c:∀k,a=some k->p k):Tn p w w' :=⟨h.os,h.tape,h.output,h.size,λk d b=>h.block k d (λe=>b (c k e.symm))⟩
theorem Tn.aL {p:Nat->Prop}{w w' :ax}(h:Tn p w w'){B:Nat}(c:B<=w.heap.size)(a:∀k,p k->B<=k):Below B w w' :=⟨h.os,h.tape,h.output,h.size,λk b=>h.block k (by omega) (λe=>by have:=a k e;omega)⟩
theorem aG.tn {w w' :ax}{b:Nat}{c:TypeId}{d:List ay}(h:aG w b c d)(f:Tn a w w')(e:¬a b):aG w' b c d:=(f.block b h.lt e).trans h
theorem bC.tn {w w' :ax}{b:Nat}{c:df}(h:bC w b c)(e:Tn a w w')(d:¬a b):bC w' b c:=h.kG (e.block b h.lt d)
structure PW (w:ax)(bx bf bi:Nat)(ve:ay)(ef:List bL)(fs:List aI)(aP:Int):Prop where
 row:aG w bx 182 [.map (some bf),ve,.map (some bi),.int .i64 aP]
 aX:bC w bf (gB fs)
 first:∃l,bC w bi l/\mF ef l
 Ti:bf≠bx
 Td:bi≠bx
 Tp:bf≠bi
section
variable {w w' :ax} {bx bf bi:Nat} {ve:ay} {ef:List bL} {fs:List aI} {aP:Int}
theorem PW.tn (h:PW w bx bf bi ve ef fs aP)(b:Tn a w w')(d:¬a bx)(c:¬a bf)(i:¬a bi):PW w' bx bf bi ve ef fs aP:=by obtain⟨f,g,e⟩:=h.first;exact⟨h.row.tn b d,h.aX.tn b c,⟨f,g.tn b i,e⟩,h.Ti,h.Td,h.Tp⟩
theorem PW.aE (h:PW w bx bf bi ve ef fs aP)(a:Below w.heap.size w w'):PW w' bx bf bi ve ef fs aP:=h.tn (Tn.aE (p:=λ_=>False) a) id id id
end
theorem BU (fs:List aI)(ef:List bL)(a d:Option Addr)(cap b g ce L h j:Nat)(aP:Int)(w:ax)(o:0<fs.length->a=some ⟨b,g,none⟩)(q:dA w b g fs)(C:b<w.heap.size)(D:fs.length<=8388608)(n:0<ef.length->d=some ⟨h,j,none⟩)(v:nP w L h j ef)(m:L<=w.heap.size)(F:ef.length<=8388608):
 Calls prog 61 #[.slice a fs.length cap,.slice d ef.length ce,.int .i64 aP] w λe w'=>∃bx bf bi,e= .returned (.pointer (some ⟨bx,0,none⟩))/\PW w' bx bf bi (.slice d ef.length ce) ef (fs.foldl Pl.bp []) aP/\Below w.heap.size w w' /\w.heap.size<=bx/\w.heap.size<=bf/\w.heap.size<=bi:=by
 have A:=aB (Jz fs a cap b g w o q C D);have B:=aB (λW (x:Below w.heap.size w W)=>Ja ef d ce L h j W n (v.aL (x.mono m)) (TT m x.size) F);clear o q n v;go_enter func61,ntmps61;go_wp2_with (first|(go_at_call 85;refine A.u.mono ?_;rintro e f ⟨rfl,t,y⟩;have r:=aB t;have k:=aB y;clear t y)|(go_at_call 86;refine(B.u _ k.u).mono ?_;rintro e c ⟨rfl,z,s⟩;have I:=aB z;have p:=aB s;clear z s)|fail)
 go_ret;have K:=r.u.lt;obtain⟨H,l,G⟩:=I.u;have J:=l.lt;have E:=k.u.size;have i:Below c.heap.size c (c.alloc (.cells #[.map (some w.heap.size),.slice d ef.length ce,.map (some f.heap.size),.int .i64 aP] 182)):=aj c _;refine⟨c.heap.size,w.heap.size,f.heap.size,rfl,⟨aG.bA c 182 [.map (some w.heap.size),.slice d ef.length ce,.map (some f.heap.size),.int .i64 aP],(r.u.aE p.u).aE i,⟨H,l.aE i,G⟩,by omega,by omega,by omega⟩,?_,by omega,TD _,by omega⟩;exact k.u.trans ((p.u.mono E).trans (i.mono (by omega)))
theorem GX (bx bf bi:Nat)(ve:ay)(ef:List bL)(fs:List aI)(aP:Int)(a:ag)(w:ax)(h:PW w bx bf bi ve ef fs aP):
 Calls prog 174 #[.pointer (some ⟨bx,0,none⟩),.string ⟨a.toArray⟩] w λe w'=>e= .returned (.bool (Pl.look fs a).isSome)/\Below w.heap.size w w' :=by
 have g:=h.row.cell 0 (by simp);simp only[TG] at g;have f:=aB h.aX;cases b:Pl.look fs a with
 |some d=>
  have c:Hid (cJ (gB fs) a=some (j9 d)):=by show _=_;rw[sX,b];rfl
  clear h b;go_enter func174,ntmps174;go_wp2_with (first|(at_lookup;refine pQ _ rfl _ _ 177 rfl 9 65 WE T0 _ (sy _) bf (gB fs) rfl f.u a rfl (j9 d) c.u ?_;unfold j9)|fail)
  go_ret;exact⟨rfl,aj w _⟩
 |none=>
  have c:Hid (cJ (gB fs) a=none):=by show _=_;rw[sX,b];rfl
  clear h b;go_enter func174,ntmps174;go_wp2_with (first|(at_lookup;refine pR _ rfl _ _ 177 rfl 9 65 WE T0 _ (sy _) bf (gB fs) rfl f.u a rfl c.u ?_)|fail)
  go_ret;exact⟨rfl,aj w _⟩
end
section
attribute [local go_sem↓] Xg Xh
end
section
attribute [local go_sem↓] Xg Xh
end
