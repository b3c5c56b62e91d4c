/- . -/
import Derived.Test.YtjelacjggijmfaaGreatDoorYRPure
import Derived.Test.YtjelacjggijmfaaGreatDoorYSR4
import Derived.Lib.BufferRead
import Derived.Shelf.Slices.Equal
import Derived.Shelf.Small.Wraps
import Derived.Shelf.SortM.Plain
import Derived.Shelf.SortM.SortNone
import Derived.Shelf.Strings.BuilderK
import Derived.Shelf.Strings.FieldsFuncGrows
import Derived.Shelf.Strings.OnBuilder
import Derived.Shelf.Strings.Replace
import Derived.Shelf.Strings.Shaped
import Derived.Shelf.Strings.SlTrimAscii
import Derived.Test.YtjelacjggijmfaaGreatDoorProg
import Derived.Lib.SpaceUEq
set_option maxHeartbeats 4000000
set_option maxRecDepth 100000
namespace Go.Cp
open Pl Mk Cp Proofs.Tryz
structure Wr where
 aY:List (List UInt8)
 bh:List UInt8
 kr:Bool
def dc (n:Nat):Nat->List UInt8
 |0=>[]
 |1=>[UInt8.ofNat n]
 |_=>[UInt8.ofNat (n/256),UInt8.ofNat n]
def gT (n d:Nat):Bool:=decide (256^d<=n)
def Wr.aZ (w:Wr)(s:List UInt8):Nat:=(w.aY.findIdx? (λx=>x==s)).getD w.aY.length
def Wr.cP (w:Wr)(s:List UInt8):Wr:=match w.aY.findIdx? (λx=>x==s) with
 |some _=>w
 |none=>⟨w.aY++[s],w.bh,w.kr⟩
def Wr.put (w:Wr)(n d:Nat):Wr:=⟨w.aY,w.bh++dc n d,w.kr||gT n d⟩
def Wr.op (w:Wr)(op:Nat):Wr:=⟨w.aY,w.bh++[UInt8.ofNat op],w.kr⟩
end Go.Cp
namespace Go.Proofs.YtjelacjggijmfaaGreatDoor
open Pl Mk Cp Proofs.Tryz
open RowKit MapKept ChangeMaps Maps
abbrev df:=List (ag×ay)
def cJ (l:df)(k:ag):Option ay:=(l.find? (λx=>x.1==k)).map (·.2)
def eK:df->ag->ay->df
 |[],k,v=>[(k,v)]
 |x::r,k,v=>if x.1==k then(k,v)::r else x::eK r k v
def bC (w:ax)(b:Nat)(l:df):Prop:=∃d f,w.heap[b]?=some (.map d f)/\Stamped d f/\d.size<=maxLen/\d.toList.map (λe=>(e.key,e.val))=l.map (λx=>(aK x.1,x.2))
theorem OX {a b:ag}(h:aK a=aK b):a=b:=by unfold aK at h;injection h with h;injection h with h;simpa using h
theorem G_ (a b:ag):((⟨a.toArray⟩:az)==⟨b.toArray⟩)=(a==b):=by show(a.toArray==b.toArray)=_;simp
theorem wh (k:ag):∀(d:List MapEntry) (l:df) (f:Nat),d.map (λe=>(e.key,e.val))=l.map (λx=>(aK x.1,x.2))->
 (cJ l k=none/\Instr.findNow .string (aK k) d f=some none/\(∀e∈d,e.key≠aK k)/\eK l k=λv=>l++[(k,v)])\/
 ∃j v e,cJ l k=some v/\Instr.findNow .string (aK k) d f=some (some (f+j,v))/\d[j]?=some e/\e.key=aK k/\∀i,(d.modify j (λe=>{e with key:=aK k,val:=i })).map (λe=>(e.key,e.val))=(eK l k i).map (λx=>(aK x.1,x.2))
 |[],[],f,_=> .inl ⟨rfl,rfl,by simp,rfl⟩
 |[],x::l,f,h=>by simp at h
 |e::d,[],f,h=>by simp at h
 |e::d,x::l,f,h=>by
  simp only[Ug,List.cons.injEq,Y2] at h;obtain⟨⟨n,C⟩,E⟩:=h;have D:Instr.sameNow .string (aK k) e.key=some (k==x.1):=by rw[n];unfold aK Instr.sameNow;simp only[G_]
  by_cases g:x.1=k
  ·right;refine⟨0,e.val,e,?_,?_,rfl,by rw[n,g],λi=> ?_⟩
   ·unfold cJ;simp[g,C]
   ·unfold Instr.findNow;rw[D,g];simp
   ·unfold eK;simp[g,E]
  ·have F :(x.1==k)=false:=by simpa using g
   have J:(k==x.1)=false:=by simpa using λe=>g e.symm
   have H:cJ (x::l) k=cJ l k:=by unfold cJ;simp[F]
   have G:∀v,eK (x::l) k v=x::eK l k v:=λv=>by rw[eK,F];rfl
   have B:Instr.findNow .string (aK k) (e::d) f=Instr.findNow .string (aK k) d (f+1):=by rw[Instr.findNow,D,J]
   rcases wh k d l (f+1) E with⟨z,s,y,u⟩|⟨j,v,p,z,s,y,u,I⟩
   ·refine .inl ⟨by rw[H,z],by rw[B,s],?_,?_⟩
    ·intro p A;rcases Ue.1 A with rfl|A
     ·rw[n];exact λe=>g (OX e)
     ·exact y p A
    ·funext v;rw[G,u];rfl
   ·refine .inr ⟨j+1,v,p,by rw[H,z],by rw[B,s];congr 3;omega,by simpa using y,u,λi=> ?_⟩;rw[G,Ug,<-I i];simp[n,C]
variable {j:ax}
section
variable {P:Program} {w:ax} {b:Nat} {l:df} {t kt et:TypeId}
theorem uF (d:P.underlying kt=some .string)(e:Bool)(k:ag):(Instr.checkKey e 10000 kt (aK k)).run P w= .ok () w:=by unfold aK;rw[show (10000:Nat)=9999+1 from rfl,Instr.checkKey];simp only[Sem.run_bind,run_underlying d,Result.andThen];rfl
theorem bC.lt (h:bC w b l):b<w.heap.size:=by obtain⟨e,f,d,_⟩:=h;exact(TN.1 d).1
theorem bC.kG (h:bC w b l)(i:j.heap[b]?=w.heap[b]?):bC j b l:=by obtain⟨d,f,g,e⟩:=h;exact⟨d,f,i.trans g,e⟩
theorem bC.aE (h:bC w b l)(d:Below w.heap.size w j):bC j b l:=h.kG (d.block b h.lt)
theorem bC.aL {B:Nat}(h:bC w b l)(e:Below B w j)(d:b<B):bC j b l:=h.kG (e.block b d)
theorem bC.kept {r:Option Nat}(h:bC w b l)(e:w.grownBy j r)(d:some b≠r):bC j b l:=h.kG (e.block b h.lt d)
theorem bC.setCell (h:bC w b l){a:Addr}(d:b≠a.block)(u:ay):bC (w.setCell a u) b l:=h.kG (T5 w a u b d)
theorem bC.jV (w:ax):bC (w.alloc (.map #[] 0)) w.heap.size []:=⟨#[],0,heap_alloc_new w _,stamped_empty 0,TS _,rfl⟩
theorem bC.look (h:bC w b l)(i:P.underlying t=some (.map kt et))(d:P.underlying kt=some .string){z:ay}(n:(zeroValue et).run P w= .ok z w)(k:ag)(c:Bool):
 (Instr.lookup t (.map (some b)) (aK k) c).run P w= .ok (if c then .tuple #[(cJ l k).getD z,.bool (cJ l k).isSome] else(cJ l k).getD z) w:=by
 obtain⟨s,B,g,x,D,j⟩:=h;rcases wh k s.toList l 0 j with⟨f,e,u,p⟩|⟨C,v,y,f,e,u,p,A⟩
 ·rw[f];simp[Instr.lookup,run_underlying i,MapKept.run_getObj_map g,uF d,Instr.findKey,run_underlying d,e,n,Result.andThen]
 ·rw[f];simp[Instr.lookup,run_underlying i,MapKept.run_getObj_map g,uF d,Instr.findKey,run_underlying d,e,Result.andThen]
theorem bC.put (h:bC w b l)(z:P.underlying t=some (.map kt et))(n:P.underlying kt=some .string)(I:l.length<maxLen)(k:ag)(v:ay):
 ∃s,(Instr.mapUpdate t (.map (some b)) (aK k) v).run P w= .ok () s /\bC s b (eK l k v)/\w.mapTurned s b:=by
 obtain⟨d,f,g,y,H,p⟩:=h;have C:b<w.heap.size:=(TN.1 g).1;have J:d.size=l.length:=by have:=TU List.length p;simpa using this
 rcases wh k d.toList l 0 p with⟨F,i,u,j⟩|⟨x,L,E,F,i,u,j,G⟩
 ·refine⟨setBlock w b (.map (d.push ⟨aK k,v,f⟩) (f+1)),?_,⟨d.push ⟨aK k,v,f⟩,f+1,by simp[setBlock,C],stamped_push y u,by simp;omega,?_⟩,d,f,_,_,g,rfl⟩
  ·simp[Instr.mapUpdate,run_underlying z,MapKept.run_getObj_map g,uF n,Instr.findKey,run_underlying n,i,MapKept.run_setObj_map _ g,Result.andThen,setBlock]
  ·rw[congrFun j v];simp[p]
 ·rw[Ur] at i;have A:d[x]?=some E :=by simpa using u
  refine⟨setBlock w b (.map (d.modify x (λe=>{e with key:=aK k,val:=v})) f),?_,⟨d.modify x (λe=>{e with key:=aK k,val:=v}),f,by simp[setBlock,C],stamped_modify y _ _ (λ_ _=>rfl) (λK _ B=> ?_),by simpa using H,?_⟩,d,f,_,_,g,rfl⟩
  ·have D:(Instr.keyThatStays (aK k) (aK k)).run P w= .ok (aK k) w:=by
    unfold aK;simp[Instr.keyThatStays,Instr.sameBits,G_]
   simp[Instr.mapUpdate,run_underlying z,MapKept.run_getObj_map g,uF n,Instr.findKey,run_underlying n,i,A,j,D,MapKept.run_setObj_map _ g,Result.andThen,setBlock]
  ·rw[A] at B;cases B;exact j.symm
  ·rw[Array.toList_modify];exact G v
end
section
variable {P:Program} (w:ax) {fG:Array Oper} {rest:List Oper} {o:Oper} {a:Act} {Q:Exit->Act->ax->Prop}
theorem pQ (g:o.guard=none)(m x:Operand)(t:TypeId)(e:o.op=Op.lookup t m x true)(kt et:TypeId)(p:P.underlying t=some (.map kt et))(j:P.underlying kt=some .string)(z:ay)(i:(zeroValue et).run P w= .ok z w)(b:Nat)(l:df)(v:a.eval m= .map (some b))(s:bC w b l)(k:ag)(y:a.eval x= .string ⟨k.toArray⟩)(u:ay)(f:cJ l k=some u)(n:wpList P fG Q rest (a.put o.dst (.tuple #[u,.bool true])) w):wpList P fG Q (o::rest) a w:=by refine Ym g λA h=> ?_;have d:=s.look p j i k true;rw[f] at d;unfold aK at d;unfold Oper.wp;simp[execOp,e,v,y,d,Result.andThen];exact h _ _ n
theorem pR (g:o.guard=none)(m x:Operand)(t:TypeId)(e:o.op=Op.lookup t m x true)(kt et:TypeId)(p:P.underlying t=some (.map kt et))(j:P.underlying kt=some .string)(z:ay)(i:(zeroValue et).run P w= .ok z w)(b:Nat)(l:df)(u:a.eval m= .map (some b))(s:bC w b l)(k:ag)(v:a.eval x= .string ⟨k.toArray⟩)(f:cJ l k=none)(n:wpList P fG Q rest (a.put o.dst (.tuple #[z,.bool false])) w):wpList P fG Q (o::rest) a w:=by refine Ym g λy h=> ?_;have d:=s.look p j i k true;rw[f] at d;unfold aK at d;unfold Oper.wp;simp[execOp,e,u,v,d,Result.andThen];exact h _ _ n
theorem mz (g:o.guard=none)(m x:Operand)(t:TypeId)(e:o.op=Op.lookup t m x false)(kt et:TypeId)(p:P.underlying t=some (.map kt et))(j:P.underlying kt=some .string)(z:ay)(i:(zeroValue et).run P w= .ok z w)(b:Nat)(l:df)(v:a.eval m= .map (some b))(s:bC w b l)(k:ag)(y:a.eval x= .string ⟨k.toArray⟩)(u:ay)(f:(cJ l k).getD z=u)(n:wpList P fG Q rest (a.put o.dst u) w):wpList P fG Q (o::rest) a w:=by refine Ym g λA h=> ?_;have d:=s.look p j i k false;rw[f] at d;unfold aK at d;unfold Oper.wp;simp[execOp,e,v,y,d,Result.andThen];exact h _ _ n
theorem pT (i:o.guard=none)(m x v:Operand)(t:TypeId)(g:o.op=Op.mapUpdate t m x v)(kt et:TypeId)(y:P.underlying t=some (.map kt et))(n:P.underlying kt=some .string)(b:Nat)(l:df)(B:a.eval m= .map (some b))(A:bC w b l)(h:l.length<maxLen)(k:ag)(C:a.eval x= .string ⟨k.toArray⟩)(u:ay)(p:a.eval v=u)(s:∀d,bC d b (eK l k u)->w.mapTurned d b->wpList P fG Q rest (a.put o.dst undef) d):wpList P fG Q (o::rest) a w:=by refine Ym i λD j=> ?_;obtain⟨d,e,z,f⟩:=A.put y n h k u;unfold aK at e;unfold Oper.wp;simp[execOp,g,B,C,p,e,Result.andThen];exact j _ _ (s d z f)
end
def j9 (f:aI):ay:= .agg #[.string ⟨f.aJ.toArray⟩,.string ⟨f.aT.toArray⟩,.int .i64 f.jc]
def gB (d:List aI):df:=d.map (λf=>(f.aJ,j9 f))
theorem sX (e:List aI)(d:ag):cJ (gB e) d=(Pl.look e d).map j9:=by
 unfold cJ gB Pl.look;rw[aaY,show ((λx:ag×ay=>x.1==d)∘λf:aI=>(f.aJ,j9 f))=(λf=>f.aJ==d) from rfl];cases e.find? (λf=>f.aJ==d) with
 |none=>rfl|some f=>rfl
theorem RA (d:List aI)(f:aI):eK (gB d) f.aJ (j9 f)=gB (gm d f):=by
 induction d with
 |nil=>rfl
 |cons e r g=>
  unfold gm;show eK ((e.aJ,j9 e)::gB r) f.aJ (j9 f)=_;rw[eK];by_cases h:e.aJ==f.aJ
  ·rw[TP h,TP h];rfl
  ·rw[TJ h,TJ h,g];rfl
variable {d:List aI}
theorem put_newP {f:aI}(h:Pl.look d f.aJ=none):gm d f=d++[f]:=by
 induction d with
 |nil=>rfl
 |cons j r g=>
  rw[wj] at h;simp only[Ug,Ue,not_or] at h;have i:¬(j.aJ==f.aJ)=true:=by simpa using λe=>h.1 e.symm
  rw[gm,TJ i,g (wj.2 h.2)];rfl
theorem Qo {f e:aI}(h:Pl.look d f.aJ=some e):Pl.bp d f=d:=by unfold Pl.bp;rw[h];rfl
theorem P3 {f:aI}(h:Pl.look d f.aJ=none):Pl.bp d f=gm d f:=by rw[put_newP h];unfold Pl.bp;rw[h];rfl
theorem sy (w:ax):(zeroValue 65).run prog w= .ok (.agg #[.string ⟨#[]⟩,.string ⟨#[]⟩,.int .i64 0]) w:=by kernel_rfl
theorem turned_below {w:ax}{B b:Nat}(h:w.mapTurned j b)(u:B<=b):Below B w j :=by
 have d:=h.grown;exact⟨d.os,d.tape,d.output,d.size,λk p=>by
  by_cases g:k<w.heap.size
  ·exact d.block k g (λe=>by cases e;omega)
  ·obtain⟨s,v,i,f,n,rfl⟩:=h;have:(setBlock w b (.map i f)).heap.size=w.heap.size:=by simp[setBlock]
   rw[Yn (by omega),Yn (by omega)]⟩
theorem Jz (d:List aI)(a:Option Addr)(cap b o:Nat)(w:ax)(B:0<d.length->a=some ⟨b,o,none⟩)(I:dA w b o d)(aa:b<w.heap.size)(hl:d.length<=8388608):
 Calls prog 85 #[.slice a d.length cap] w λe J=>e= .returned (.map (some w.heap.size))/\bC J w.heap.size (gB (d.foldl Pl.bp []))/\Below w.heap.size w J :=by
 have R:=aB I;have T:=aB B;have H:=aB (bC.jV w);have z:=aB (aj w (.map #[] 0));have D:= @XN prog;clear I B;go_enter func85,ntmps85;go_wp2_with fail
 go_loopw [11] (λx wr=>∃k:Nat,x= .int .i64 k/\k<=d.length/\Hid (bC wr w.heap.size (gB ((d.take k).foldl Pl.bp [])))/\Hid (Below w.heap.size w wr)) (λx _=>d.length-aS x)
 case atStart=>exact⟨0,rfl,TS _,H,z⟩
 case round=>
  clear H z;obtain⟨k,rfl,ab,i,v⟩:=hrel;by_cases A:k<d.length
  ·obtain rfl:=T.u (by omega);have E:=R.u.aL v.u aa;obtain⟨O,Y,p2⟩:=E k A;have j:=aB (Ex d k A);have S:((d.take k).foldl Pl.bp []).length<=8388608:=by have:=z7 (d.take k) [];simp at this;omega
   have ad:=i.u.lt;generalize M:d[k]=fk at*;generalize (d.take k).foldl Pl.bp []=f at*;unfold aK at O Y;have t1:(k:Int)<(d.length:Int):=by omega
   have s:Hid (∀o:Obj,bC (wr.alloc o) w.heap.size (gB f)):=λo=>i.u.aE (aj wr o);have C:Hid (∀o q:Obj,bC ((wr.alloc o).alloc q) w.heap.size (gB f)):=λo q=>(s.u o).aE (aj _ q);have F:Hid (∀o q:Obj,Below w.heap.size w ((wr.alloc o).alloc q)):=λo q=>(v.u.alloc (by omega) o).alloc (by rw[TM];omega) q;have ac:(gB f).length<=8388608:=by unfold gB;rw[TR];exact S
   clear E M D;cases g:Pl.look f fk.aJ with
   |some K=>
    have h:cJ (gB f) fk.aJ=some (j9 K):=by rw[sX,g];rfl
    have n:Hid ((d.take (k+1)).foldl Pl.bp []=f):=by show _=_;rw[j.u,Qo g]
    have p:=aB h;clear g j h;as_aux_lemma=>
     go_wp2_with (first|(at_lookup;refine pQ _ rfl _ _ 177 rfl 9 65 WE T0 _ (sy _) w.heap.size (gB f) rfl (s.u _) fk.aJ rfl (j9 K) p.u ?_;unfold j9)|fail)
     go_roundw
     case rel=>exact⟨k+1,by go_num,by omega,by rw[n.u];exact C.u _ _,F.u _ _⟩
     case measure=>simp only[aS];omega
   |none=>
    have h:cJ (gB f) fk.aJ=none:=by rw[sX,g];rfl
    have n:Hid (gB ((d.take (k+1)).foldl Pl.bp [])=eK (gB f) fk.aJ (j9 fk)):=by show _=_;rw[j.u,P3 g,RA]
    have p:=aB h;clear g j h;as_aux_lemma=>
     go_wp2_with (first|(at_lookup;refine pR _ rfl _ _ 177 rfl 9 65 WE T0 _ (sy _) w.heap.size (gB f) rfl (s.u _) fk.aJ rfl p.u ?_)|(refine pT _ rfl _ _ _ 177 rfl 9 65 WE T0 w.heap.size (gB f) rfl (C.u _ _) (by unfold maxLen;omega) fk.aJ rfl (j9 fk) rfl ?_;intro w1 y G;have U:=aB y;have V:=aB ((F.u _ _).trans (turned_below G ak));clear y G)|fail)
     go_roundw
     case rel=>exact⟨k+1,by go_num,by omega,by rw[n.u];exact U.u,V⟩
     case measure=>simp only[aS];omega
  ·have L:d.take k=d:=Uh (by omega);rw[L] at i;clear L D;go_wp2_with fail
   go_ret;exact⟨rfl,i.u,v.u⟩
theorem FX (l:df)(k:ag)(v:ay)(q:ag):cJ (eK l k v) q=if k=q then some v else cJ l q:=by
 induction l with
 |nil=>unfold eK cJ;by_cases h:k=q<;>simp[h]
 |cons x r g=>
  rw[eK];by_cases d:x.1=k
  ·rw[TP (by simpa using d)];unfold cJ;by_cases h:k=q
   ·simp[h]
   ·simp[h,d]
  ·rw[TJ (by simpa using d)];unfold cJ at g⊢;by_cases f:x.1=q
   ·have:¬k=q:=λe=>d (f.trans e.symm);simp[f,this]
   ·rw[V8 (by simpa using f),g,V8 (by simpa using f)]
theorem FK (l:df)(k:ag)(v:ay):(eK l k v).length<=l.length+1:=by
 induction l with
 |nil=>simp[eK]
 |cons x r d=>rw[eK];split<;>simp;omega
def mF (d:List bL)(l:df):Prop:=l.length<=d.length/\∀c,cJ l c=(d.findIdx? (λe=>e.ej==c)).map (λf=> .int .i64 (f:Nat))
theorem mF.nil:mF [] []:=⟨TD _,λc=>by simp[cJ]⟩
variable {n:List bL}
theorem mF.fm {l:df}(h:mF n l)(e:bL){v:ay}(d:cJ l e.ej=some v):mF (n++[e]) l:=by
 refine⟨by simp;have:=h.1;omega,λc=> ?_⟩;rw[h.2 c,W_];cases g:n.findIdx? (λe=>e.ej==c) with
 |some i=>rfl
 |none=>
  have:¬e.ej=c:=λf=>by subst f;rw[h.2 e.ej,g] at d;cases d
  simp[this]
theorem mF.bA {l:df}(h:mF n l)(e:bL)(f:cJ l e.ej=none):mF (n++[e]) (eK l e.ej (.int .i64 (n.length:Nat))):=by
 refine⟨by have:=FK l e.ej (.int .i64 (n.length:Nat));have:=h.1;simp;omega,λc=> ?_⟩;rw[FX,W_];by_cases d:e.ej=c
 ·subst d;rw[h.2 e.ej] at f;cases g:n.findIdx? (λx=>x.ej==e.ej) with
  |some i=>rw[g] at f;cases f
  |none=>simp
 ·rw[TJ d,h.2 c];cases g:n.findIdx? (λx=>x.ej==c) with|some i=>rfl|none=>simp[d]
theorem GM (w:ax):(zeroValue 3).run prog w= .ok (.int .i64 0) w:=by kernel_rfl
theorem Ja (d:List bL)(a:Option Addr)(cap L b o:Nat)(w:ax)(F:0<d.length->a=some ⟨b,o,none⟩)(J:nP w L b o d)(R:L<=w.heap.size)(hl:d.length<=8388608):
 Calls prog 86 #[.slice a d.length cap] w λe K=>e= .returned (.map (some w.heap.size))/\(∃l,bC K w.heap.size l/\mF d l)/\Below w.heap.size w K :=by
 have T:=aB J;have aa:=aB F;have I:=aB (bC.jV w);have D:=aB (aj w (.map #[] 0));have s:= @XN prog;clear J F;go_enter func86,ntmps86;go_wp2_with fail
 go_loopw [11] (λf wr=>∃(k:Nat) (l:df),f= .int .i64 k/\k<=d.length/\Hid (bC wr w.heap.size l)/\Hid (mF (d.take k) l)/\Hid (Below w.heap.size w wr)) (λf _=>d.length-aS f)
 case atStart=>exact⟨0,[],rfl,TS _,I,mF.nil,D⟩
 case round=>
  clear I D;obtain⟨k,l,rfl,ad,A,h,z⟩:=hrel;by_cases E:k<d.length
  ·obtain rfl:=aa.u (by omega);have y:=T.u.aL (z.u.mono R);obtain⟨S,p2,aw,cw,bw,ow,p1,-⟩:=y.2 k E;have j:d.take (k+1)=d.take k++[d[k]]:=TW E;have p:(d.take k).length=k:=by rw[Um];omega
   have U:=h.u.1;rw[p] at U;have ae:=A.u.lt;generalize C:d[k]=fk at*;unfold aK at S;have t1:(k:Int)<(d.length:Int):=by omega
   have n:Hid (∀o:Obj,bC (wr.alloc o) w.heap.size l):=λo=>A.u.aE (aj wr o);have G:Hid (∀o:Obj,Below w.heap.size w (wr.alloc o)):=λo=>z.u.alloc (by omega) o;have V:l.length<maxLen:=by unfold maxLen;omega
   cases g:cJ l fk.ej with
   |some v=>
    have i:=aB (h.u.fm fk g);rw[<-j] at i;obtain⟨f,Y⟩:∃f:Nat,v= .int .i64 f:=by
     have:=h.u.2 fk.ej;rw[g] at this;cases M:(d.take k).findIdx? (λe=>e.ej==fk.ej) with
     |none=>rw[M] at this;cases this
     |some f=>rw[M] at this;exact⟨f,by simpa using this⟩
    subst Y;have x:=aB g;clear g s y C j p;as_aux_lemma=>
     go_wp2_with (first|(at_lookup;refine pQ _ rfl _ _ 179 rfl 9 3 Wh T0 _ (GM _) w.heap.size l rfl (n.u _) fk.ej rfl _ x.u ?_)|fail)
     go_roundw
     case rel=>exact⟨k+1,l,by go_num,by omega,n.u _,i,G.u _⟩
     case measure=>simp only[aS];omega
   |none=>
    have i:=aB (h.u.bA fk g);rw[<-j,p] at i;have x:=aB g;clear g s y C j p;as_aux_lemma=>
     go_wp2_with (first|(at_lookup;refine pR _ rfl _ _ 179 rfl 9 3 Wh T0 _ (GM _) w.heap.size l rfl (n.u _) fk.ej rfl x.u ?_)|(refine pT _ rfl _ _ _ 179 rfl 9 3 Wh T0 w.heap.size l rfl (n.u _) V fk.ej rfl (.int .i64 k) rfl ?_;intro w1 B H;have ab:=aB B;have ac:=aB ((G.u _).trans (turned_below H ak));clear B H)|fail)
     go_roundw
     case rel=>exact⟨k+1,_,by go_num,by omega,ab,i,ac⟩
     case measure=>simp only[aS];omega
  ·have O:d.take k=d:=Uh (by omega);rw[O] at h;clear O s;go_wp2_with fail
   go_ret;exact⟨rfl,⟨l,A.u,h.u⟩,z.u⟩
end Go.Proofs.YtjelacjggijmfaaGreatDoor
namespace Go.Pl
open Pl Mk Cp Proofs.Tryz
open RowKit
theorem Hm {c:Bs}{m:Nat}:∀{f d h:Nat} {A:Aw} {q x:Nat},vy c m f d h A->A q=some x->∃B,Spec c m q x B
 |0,_,_,_,_,_,h,_=>h.elim
 |f+1,d,h,A,q,x,j,e=>by
  by_cases i:q=d
  ·subst i;have:=j.1 x e;subst this;exact⟨A,f+1,j⟩
  obtain⟨_,⟨n,C,z,_,_,y,v⟩|⟨n,_,s⟩⟩:=j
  ·have:gz A (a_ c d) h q=some x:=by
    unfold gz put;have g:del A d q=some x:=by unfold del;rw[TJ i];exact e
    split
    ·rename_i p;dsimp only;split
     ·rename_i u;have:=y p x (by rw[<-u];exact g);rw[this];rfl
     ·exact g
    ·exact g
   exact Hm v this
  ·rw[s q i] at e;cases e
variable {g:Nat}
theorem Qh {c:Bs}{m h q x:Nat}{A:Aw}(d:Spec c m g h A)(e:A q=some x):∃B,Spec c m q x B:=let ⟨_,hf⟩:=d;Hm hf e
def Sn (c:Bs)(m d h:Nat):Prop:=∃A,Spec c m d h A
theorem zQ {op:Nat}(h:ee op≠0):op=1\/op=2\/op=3\/op=4\/op=5\/op=6\/op=7\/op=8:=by
 unfold ee at h;split at h
 ·omega
 ·split at h
  ·omega
  ·split at h
   ·omega
   ·split at h
    ·omega
    ·exact absurd rfl h
structure SM (c:Bs)(m p h:Nat):Prop where
 cd:cd c p
 fG:iD m (a_ c p)
 iK:iK (opAt c p)<=h
 ey:ey (opAt c p) h<=16
theorem Sn.IJ {c:Bs}{m h:Nat}(j:Sn c m g h)(d:g<c.length):SM c m g h:=by obtain⟨A,p⟩:=j;obtain⟨_,f,e,n,i,_⟩:=(lU d).1 p;exact⟨f,e,n,i⟩
variable {n:List bL}
theorem Ls {c:Bs}{ss:List Bs}{st:List Bool}{fl:Nat->Bool}{X:Wd}(e:cd c g)(d:iK (opAt c g)<=st.length):(dG ss n (a_ c g) st fl X).2.1.length=ey (opAt c g) st.length:=by have f:(a_ c g).op=opAt c g:=rfl;unfold dG ey;rw[f];rcases zQ e.1 with h|h|h|h|h|h|h|h<;>rw[h] at d⊢<;>simp[Pl.iK,xh] at d⊢<;>omega
theorem Sn.next {c:Bs}{m:Nat}{ss:List Bs}{ef:List bL}{st:List Bool}{fl:Nat->Bool}{X:Wd}(n:Sn c m g st.length)(p:g<c.length):
 Sn c m (dG ss ef (a_ c g) st fl X).1 (dG ss ef (a_ c g) st fl X).2.1.length/\g<(dG ss ef (a_ c g) st fl X).1:=by
 have i:=n.IJ p;obtain⟨A,u⟩:=n;obtain⟨_,B,v,z,y,C,j⟩:=(lU p).1 u;rw[Ls i.cd i.iK];have d:(a_ c g).op=opAt c g:=rfl;have D:(a_ c g).next=g+ee (opAt c g):=rfl;have s:=i.cd.1;by_cases f :opAt c g=6
 ·have e:(dG ss ef (a_ c g) st fl X).1=if st.getLast?.getD false then(a_ c g).next else(a_ c g).next+(a_ c g).first:=by
   unfold dG;rw[d,f];simp
  rw[e];split
  ·exact⟨⟨_,j⟩,by omega⟩
  ·refine⟨Qh j (q:=(a_ c g).next+(a_ c g).first) (x:=ey (opAt c g) st.length) ?_,by omega⟩;unfold gz put;rw[TP (by rw[d];exact f)];simp[d]
 ·have e:(dG ss ef (a_ c g) st fl X).1=(a_ c g).next:=by
   unfold dG;rw[d];rcases zQ s with h|h|h|h|h|h|h|h<;>first|(exact absurd h f)|(rw [h];simp)
  rw[e];exact⟨⟨_,j⟩,by omega⟩
def Ends (c:Bs)(ss:List Bs)(g:List bL)(d:Nat)(st:List Bool)(fl:Nat->Bool)(X e:Wd):Prop:=∃f,c.length-d<f/\oI c ss g f d st fl X=e
variable {x:Wd}
theorem Ends.stop {c:Bs}{ss:List Bs}{st:List Bool}{fl:Nat->Bool}{X:Wd}(h:Ends c ss n g st fl X x)(e:¬(g<c.length/\X.exit=0)):X=x:=by obtain⟨f,_,d⟩:=h;rw[Py e] at d;exact d
theorem Ends.step {c:Bs}{ss:List Bs}{st:List Bool}{fl:Nat->Bool}{X:Wd}(h:Ends c ss n g st fl X x)(e:g<c.length)(i:X.exit=0)(j:g<(dG ss n (a_ c g) st fl X).1):
 Ends c ss n (dG ss n (a_ c g) st fl X).1 (dG ss n (a_ c g) st fl X).2.1 (dG ss n (a_ c g) st fl X).2.2.1 (dG ss n (a_ c g) st fl X).2.2.2 x:=by
 obtain⟨f,p,d⟩:=h;cases f with
 |zero=>omega|succ f=>rw[oI,TP ⟨e,i⟩] at d;exact⟨f,by omega,d⟩
def jC (c:Bs)(ss:List Bs)(d:List bL)(X:Wd):Wd:=oI c ss d (c.length+1) 0 [] (λ_=>false) X
theorem Ends.start (c:Bs)(ss:List Bs)(d:List bL)(X:Wd):Ends c ss d 0 [] (λ_=>false) X (jC c ss d X):=⟨c.length+1,by omega,rfl⟩
end Go.Pl
namespace Go.Proofs.YtjelacjggijmfaaGreatDoor
open Pl Mk Cp Proofs.Tryz
open RowKit
theorem Tryz.Mj:(Tryz.prog.info? 65).map (λd=>(d.zero,d.size,d.bytes))=some (some (.agg #[.string ⟨#[]⟩,.string ⟨#[]⟩,.int .i64 0]),3,40):=by kernel_rfl
def zf:aI:=⟨[],[],0⟩
def mE:ag:=[116,104,101,32,99,97,108,108,101,114,39,115]
def iW (n:Nat):List aI:=(List.range 8).map λd=>⟨mE,[],((n+d:Nat):Int)⟩
theorem Lq (n:Nat):madeCells (Value.agg #[.string ⟨#[]⟩,.string ⟨#[]⟩,.int .i64 0]).cells (n*3)=(gK (List.replicate n zf)).toArray:=by
 have j:=JD (List.replicate n zf);rw[List.length_replicate] at j;apply Array.ext
 ·rw[aaZ];simp[j]
 ·intro d i y;rw[aaZ] at i;have x:d/3<n:=by omega
  obtain⟨s,p,h⟩:=yA (List.replicate n zf) (d/3) (by simpa using x);simp only[List.getElem_replicate] at s p h;have e:d % 3=0\/d % 3=1\/d % 3=2:=by omega
  have f:∀v,(gK (List.replicate n zf))[d]?=some v->(gK (List.replicate n zf)).toArray[d]=v:=λv u=>by simp only[List.getElem_toArray];exact(TZ.1 u).2
  have g:(madeCells (Value.agg #[.string ⟨#[]⟩,.string ⟨#[]⟩,.int .i64 0]).cells (n*3))[d]'(by rw[aaZ];exact i)=(#[Value.string ⟨#[]⟩,.string ⟨#[]⟩,.int .i64 0])[d % 3]!:=by simp[madeCells,Value.cells]
  rcases e with e|e|e
  ·rw[f _ (show _=some (aK zf.aJ) from by rw[<-s];congr 1;omega)];rw[g,e];rfl
  ·rw[f _ (show _=some (aK zf.aT) from by rw[<-p];congr 1;omega)];rw[g,e];rfl
  ·rw[f _ (show _=some (.int .i64 zf.jc) from by rw[<-h];congr 1;omega)];rw[g,e];rfl
def CR (w:ax)(N:Nat)(t:TypeId)(d:List aI):Prop:=aG w N t (gK d)
def oD (w:ax)(N k:Nat)(f:aI):ax:=((w.setCell ⟨N,k*3,none⟩ (aK f.aJ)).setCell ⟨N,k*3+1,none⟩ (aK f.aT)).setCell ⟨N,k*3+2,none⟩ (.int .i64 f.jc)
variable {d:List aI}
theorem CR.set {w:ax}{N:Nat}{t:TypeId}(h:CR w N t d)(k:Nat)(e:k<d.length)(f:aI):CR (oD w N k f) N t (d.set k f):=by unfold CR oD;rw[<-Co d f k e];exact((aG.set h _ _).set _ _).set _ _
theorem CR.cells {w:ax}{N:Nat}{t:TypeId}(h:CR w N t d)(k:Nat)(i:k<d.length):
 w.cell? ⟨N,k*3,none⟩=some (aK d[k].aJ)/\w.cell? ⟨N,k*3+1,none⟩=some (aK d[k].aT)/\w.cell? ⟨N,k*3+2,none⟩=some (.int .i64 d[k].jc):=by obtain⟨s,u,e⟩:=yA d k i;obtain⟨v,j⟩:=TZ.1 s;obtain⟨g,n⟩:=TZ.1 u;obtain⟨f,p⟩:=TZ.1 e;exact⟨by rw[<-j];exact aG.cell h _ v,by rw[<-n];exact aG.cell h _ g,by rw[<-p];exact aG.cell h _ f⟩
theorem CR.drew {w:ax}{N:Nat}{t:TypeId}(h:CR w N t d):CR w.drew N t d:=h
theorem CR.Hn {w:ax}{N:Nat}{t:TypeId}(h:CR w N t d)(k:Nat)(f:k<d.length):∃v0 v1 e,w.cell? ⟨N,k*3,none⟩=some v0/\w.cell? ⟨N,k*3+1,none⟩=some v1/\w.cell? ⟨N,k*3+2,none⟩=some e:=⟨_,_,_,h.cells k f⟩
theorem CR.rd {w:ax}{N:Nat}{t:TypeId}(h:CR w N t d):dA w N 0 d:=λe f=>by have:=h.cells e f;simpa using this
def mO (d:List aI)(k:Nat):List aI:=d.take k++List.replicate (d.length-k) zf
theorem NI (d:List aI)(k:Nat)(h:k<=d.length):(mO d k).length=d.length:=by simp[mO];omega
theorem Pg (d:List aI)(k:Nat)(h:k<d.length):(mO d k).set k d[k]=mO d (k+1):=by
 unfold mO;have e:(d.take k).length=k:=by simp;omega
 rw[Vg _ _ (by omega),e,XT,TW h,show d.length-k=(d.length-(k+1))+1 from by omega,List.replicate_succ,VZ,Ub];rfl
theorem set_set (l:List aI)(k:Nat)(f d:aI):(l.set k f).set k d=l.set k d:=List.set_set _
structure Ho (w:ax)(T:List aI)(k:Nat)(W:ax):Prop where
 row:CR W w.heap.size 65 (mO T k)
 aL:Below w.heap.size w W
theorem Dn {w W:ax}{N:Nat}(h:Below N w W)(k:Nat)(f:aI):Below N w (oD W N k f):=((h.setCell (p:=⟨N,_,none⟩) ak _).setCell (p:=⟨N,_,none⟩) ak _).setCell (p:=⟨N,_,none⟩) ak _
theorem Ft (d:List aI)(k:Nat)(e:d.length<=k)(f:k<d.length+8)(h:k<(d++iW d.length).length):(d++iW d.length)[k]=⟨mE,[],(k:Int)⟩:=by rw[List.getElem_append_right e];simp only[iW,Ut,X6];congr 1;omega
theorem yL (d:List aI)(a:Option Addr)(cap b o:Nat)(w:ax)(E:0<d.length->a=some ⟨b,o,none⟩)(J:dA w b o d)(ac:b<w.heap.size)(hl:d.length<=8388608):
 Calls prog 12 #[.slice a d.length cap] w λe K=>e= .returned (.slice (some ⟨w.heap.size,0,none⟩) d.length (d.length+8))/\CR K w.heap.size 65 (d++iW d.length)/\Below w.heap.size w K :=by
 obtain⟨i0,H,S,L,M⟩:=UF Tryz.Mj;have ad:∀w,(Instr.makeSlice 27 (.int .i64 ((d.length:Int)+8)) (.int .i64 ((d.length:Int)+8))).run prog w= .ok (.slice (some ⟨w.heap.size,0,none⟩) (d.length+8) (d.length+8)) (w.alloc (.cells (gK (List.replicate (d.length+8) zf)).toArray 65)):=by intro w;have:=run_make (P:=prog) w 27 65 i0 _ underlying27 H S .i64 .i64 ((d.length+8:Nat):Int) ((d.length+8:Nat):Int) (by omega) (Int.le_refl _) (by rw[M];omega) (by omega);rw[L,ZO,Lq] at this;exact this
 have HR:=aB J;have ab:=aB E;have x:(d++iW d.length).length=d.length+8:=by simp[iW]
 have p:Hid (∀k,d.length<=k->k<d.length+8->∀h:k<(d++iW d.length).length,(d++iW d.length)[k]=⟨mE,[],(k:Int)⟩):=λk h1 Y h=>Ft d k h1 Y h;have v:Hid (∀k (h:k<d.length) (h' :k<(d++iW d.length).length),(d++iW d.length)[k]=d[k]):=λk h h'=>Vy h;generalize hT:d++iW d.length=T at*;have I:Hid (Ho w T 0 (w.alloc (.cells (gK (List.replicate (d.length+8) zf)).toArray 65))):=by refine⟨?_,aj w _⟩;unfold CR mO;rw[List.take_zero,UI,x,Zo];exact aG.bA w 65 _
 have B:=aB x;clear J E H S L M hT x;go_enter func12,ntmps12;go_wp2_with fail
 clear ad;go_loopw [4] (λA wr=>∃k:Nat,A= .int .i64 k/\k<=d.length+8/\Hid (Ho w T k wr)) (λA _=>d.length+8-aS A)
 case atStart=>exact⟨0,rfl,TS _,I⟩
 case round=>
  clear I;obtain⟨k,rfl,ae,f⟩:=hrel;by_cases C:k<d.length+8
  ·have n:k<T.length:=by rw[B.u];exact C
   have z:=NI T k (VA n);obtain⟨v0,v1,v2,V,c1,c2⟩:=f.u.row.Hn k (by omega);have f0:=aG.frozen f.u.row (k*3);have f1:=aG.frozen f.u.row (k*3+1);have f2:=aG.frozen f.u.row (k*3+2);have g:=aB (f.u.row.set k (by omega) ⟨mE,[],(k:Int)⟩);have s:=aB (Dn f.u.aL k ⟨mE,[],(k:Int)⟩);have G:=aB (Pg T k n);by_cases D:k<d.length
   ·obtain rfl:=ab.u (by omega);have i:=aB (v.u k D n);have O:=HR.u.aL s.u ac;obtain⟨p0,p1,p2⟩:=O k D;have U:((mO T k).set k ⟨mE,[],(k:Int)⟩).length=T.length:=by simp[z]
    obtain⟨y0,y1,y2,d0,d1,d2⟩:=g.u.Hn k (by omega);have g0:=aG.frozen g.u (k*3);have g1:=aG.frozen g.u (k*3+1);have g2:=aG.frozen g.u (k*3+2);have j:Hid (CR (oD (oD wr w.heap.size k ⟨mE,[],(k:Int)⟩) w.heap.size k d[k]) w.heap.size 65 (mO T (k+1))):=by have:=g.u.set k (by omega) d[k];rw[set_set] at this;rw[<-G.u,i.u];exact this
    have aa:=aB (Dn s.u k d[k]);have t1:(k:Int)<(d.length:Int):=by omega
    have R:(k:Int)<(d.length:Int)+8:=by omega
    generalize d[k]=fk at*;unfold oD aK mE at*;clear O z U g s f i p v;simp only at*;go_wp2_with fail
    generalize (((wr.setCell ⟨w.heap.size,k*3,none⟩ (.string ⟨#[116,104,101,32,99,97,108,108,101,114,39,115]⟩)).setCell ⟨w.heap.size,k*3+1,none⟩ (.string ⟨#[]⟩)).setCell ⟨w.heap.size,k*3+2,none⟩ (.int .i64 (k:Int)))=W1 at*;clear V c1 c2 f0 f1 f2;go_region
    all_goals go_wp2_with fail
    all_goals go_roundw
    all_goals first
     |exact⟨k+1,by go_num,by omega,j.u.drew,aa.u.drew⟩
     |(simp only[aS];omega)
   ·have i:=aB (p.u k (by omega) C n);have t1:¬(k:Int)<(d.length:Int):=by omega
    have R:(k:Int)<(d.length:Int)+8:=by omega
    have j:Hid (CR (oD wr w.heap.size k ⟨mE,[],(k:Int)⟩) w.heap.size 65 (mO T (k+1))):=by rw[<-G.u,i.u];exact g.u
    unfold oD aK mE at*;clear z g f i p v;simp only at*;go_wp2_with fail
    go_roundw
    case rel=>exact⟨k+1,by go_num,by omega,j.u,s.u⟩
    case measure=>simp only[aS];omega
  ·have F:mO T k=T:=by
    unfold mO;rw[Uh (by rw[B.u];omega),show T.length-k=0 from by rw[B.u];omega];simp
   have y:=f.u.row;rw[F] at y;have j:=aB y;have R:¬(k:Int)<(d.length:Int)+8:=by omega
   clear F y p v;go_wp2_with fail
   go_ret;exact⟨rfl,j.u,f.u.aL⟩
variable {j:ax}
theorem CR.aL {w:ax}{N n:Nat}{t:TypeId}(h:CR w N t d)(f:Below n w j)(e:N<n):CR j N t d:=aG.aL h f e
theorem D2 (d:List aI)(a:Option Addr)(cap b o N:Nat)(w:ax)(C:0<d.length->a=some ⟨b,o,none⟩)(D:dA w b o d)(V:b<w.heap.size)(hl:d.length<=8388608)(y:CR w N 65 (d++iW d.length)):
 Calls prog 16 #[.slice (some ⟨N,0,none⟩) d.length (d.length+8),.slice a d.length cap] w λe R=>e= .returned (.bool true)/\Below w.heap.size w R :=by
 have I:=aB D;have L:=aB C;have Y:=aB y;have F:=aG.lt y;have A:(d++iW d.length).length=d.length+8:=by simp[iW]
 have g:Hid (∀k,d.length<=k->k<d.length+8->∀h:k<(d++iW d.length).length,(d++iW d.length)[k]=⟨mE,[],(k:Int)⟩):=λk S H h=>Ft d k S H h;have i:Hid (∀k (h:k<d.length) (K :k<(d++iW d.length).length),(d++iW d.length)[k]=d[k]):=λk h K=>Vy h;generalize M:d++iW d.length=T at*;have O:=aB A;clear D C M A y;go_enter func16,ntmps16;go_wp2_with fail
 go_loopw [6] (λv wr=>∃k:Nat,v= .int .i64 k/\k<=d.length+8/\Hid (Below w.heap.size w wr)) (λv _=>d.length+8-aS v)
 case atStart=>exact⟨0,rfl,TS _,TF _ _⟩
 case round=>
  obtain⟨k,rfl,aa,f⟩:=hrel;by_cases z:k<d.length+8
  ·have s:k<T.length:=by rw[O.u];exact z
   have n:=Y.u.aL f.u F;obtain⟨j,p,x⟩:=n.cells k s;have J:=f.u.size;have ab:N<wr.heap.size:=by omega
   have ac:b<wr.heap.size:=by omega
   have U:(k:Int)<(d.length:Int)+8:=by omega
   have E:∀o,Hid (Below w.heap.size w (wr.alloc o)):=λo=>f.u.alloc J o;by_cases B:k<d.length
   ·obtain rfl:=L.u (by omega);rw[i.u k B s] at j p x;obtain⟨p0,p1,p2⟩:=I.u.aL f.u V k B;have G:(k:Int)<(d.length:Int):=by omega
    generalize d[k]=fk at*;unfold aK at*;clear n g i;go_wp2_with fail
    go_region
    all_goals go_wp2_with fail
    all_goals go_quiet (fail)
    all_goals go_wp2_with fail
    all_goals go_roundw
    all_goals first
     |exact⟨k+1,by go_num,by omega,Below.drewN (uh (E _)) _⟩
     |(simp only[aS];omega)
   ·rw[g.u k (by omega) z s] at j p x;have G:¬(k:Int)<(d.length:Int):=by omega
    unfold aK mE at*;clear n g i;simp only at j p x;go_wp2_with fail
    go_quiet (fail)
    go_wp2_with fail
    all_goals go_roundw
    all_goals first
     |exact⟨k+1,by go_num,by omega,Below.drewN (uh (E _)) _⟩
     |(simp only[aS];omega)
  ·have U:¬(k:Int)<(d.length:Int)+8:=by omega
   clear g i;go_wp2_with fail
   go_ret;exact⟨rfl,f.u⟩
def kept:ag:=[107,101,112,116]
theorem vA (x:Bool)(w:ax):Calls prog 47 #[.bool x] w λe d=>e= .returned (.int .i64 (if x then 1 else 0))/\w=d :=by
 cases x;all_goals go_enter func47,ntmps47
 all_goals go_wp2
 all_goals go_ret
 all_goals exact⟨rfl,rfl⟩
def na (w:ax)(b o:Nat)(e:List ag):Prop:=∀d (h:d<e.length),w.cell? ⟨b,o+d,none⟩=some (aK e[d])
variable {v:List ag}
theorem na.aL {w:ax}{n b o:Nat}(h:na w b o v)(f:Below n w j)(e:b<n):na j b o v:=λd g=>by rw[f.cell (p:=⟨b,o+d,none⟩) e];exact h d g
structure Boxed (w:ax)(N:Nat)(t:TypeId)(v0 v1 v2 v3:ay)(W:ax):Prop where
 row:aG W N t [v0,v1,v2,v3]
 aL:Below w.heap.size w W
variable {i s u:ay}
theorem Boxed.cells {w W:ax}{N:Nat}{t:TypeId}{v0 v1:ay}(h:Boxed w N t v0 v1 i s W):W.cell? ⟨N,0,none⟩=some v0/\W.cell? ⟨N,1,none⟩=some v1/\W.cell? ⟨N,2,none⟩=some i/\W.cell? ⟨N,3,none⟩=some s:=⟨h.row.cell 0 (by simp),h.row.cell 1 (by simp),h.row.cell 2 (by simp),h.row.cell 3 (by simp)⟩
theorem Boxed.drewN {w W:ax}{N:Nat}{t:TypeId}{v0 v1:ay}(h:Boxed w N t v0 v1 i s W)(n:Nat):Boxed w N t v0 v1 i s (W.drewN n):=⟨h.row.aE (Below.drewN (TF _ _) n),Below.drewN h.aL n⟩
theorem PR (w:ax)(t u:TypeId)(v0 v1 d e i f h g:ay):Boxed w w.heap.size t v0 v1 d e ((w.alloc (.cells #[v0,v1,d,e] t)).alloc (.cells #[i,f,h,g] u))/\Boxed w (w.heap.size+1) u i f h g ((w.alloc (.cells #[v0,v1,d,e] t)).alloc (.cells #[i,f,h,g] u)):=by have j:Below w.heap.size w ((w.alloc (.cells #[v0,v1,d,e] t)).alloc (.cells #[i,f,h,g] u)):=(aj w _).alloc (by rw[TM];omega) _;refine⟨⟨(aG.bA w t [v0,v1,d,e]).aE (aj _ _),j⟩,⟨?_,j⟩⟩;have:=aG.bA (w.alloc (.cells #[v0,v1,d,e] t)) u [i,f,h,g];rw[TM] at this;exact this
def iw (b:Bool):ay:= .int .i64 (if b then 1 else 0)
variable {f:List ay}
theorem bT {w W:ax}{B e size n:Nat}{v:ay}(h:w.ownsRow B e size v n f)(d:∀k,v.ownBlock=some k->W.heap[k]?=w.heap[k]?):W.ownsRow B e size v n f:=by
 refine⟨h.1,?_⟩;rcases h.2 with h1|⟨g,cap,cur,rfl,h2,h3,h4⟩
 ·exact .inl h1
 ·exact .inr ⟨g,cap,cur,rfl,h2,(d g rfl).trans h3,h4⟩
theorem Oe {w W:ax}{B e size n:Nat}{v:ay}(h:w.ownsRow B e size v n f)(d:jn w W)(s:e≠89)(j:e≠9)(i:e≠99):W.ownsRow B e size v n f:=bT h (λk u=>by obtain⟨p,g,x⟩:=eN h k u;exact d k p e g x s j i)
theorem aG.kept {w W:ax}{b:Nat}{t:TypeId}{vs:List ay}(h:aG w b t vs)(d:jn w W)(g:t≠89)(f:t≠9)(e:t≠99):aG W b t vs:=(d b _ t _ h g f e).trans h
variable {g y:Nat}
theorem GH {w:ax}{B e n cap:Nat}(h:w.ownsRow B e 1 (.slice (some ⟨g,0,none⟩) n cap) n f)(m:Nat)(C:m<=n):w.ownsRow B e 1 (.slice (some ⟨g,0,none⟩) m cap) m (f.take m):=by
 have z:=h.1;refine⟨by simp;omega,.inr ?_⟩;rcases h.2 with⟨d,_⟩|⟨x,A,j,d,i,p,y,u,v,s⟩
 ·cases d
 ·cases d;refine⟨g,cap,j,rfl,i,p,by omega,u,v,?_⟩;rw[<-s,Yo];congr 1;omega
structure fe (w:ax)(pb xb ob:Nat)(ap:Option Addr)(cp:Nat)(c:ag)(ss:List ag)(ve vf vc vs:ay)(st:List Bool)(fl:Nat->Bool)(X:Wd)(W:ax):Prop where
 dS:aG W pb 97 [.slice ap ss.length cp,.string ⟨c.toArray⟩]
 aY:∃b,(0<ss.length->ap=some ⟨b,0,none⟩/\b<xb)/\na W b 0 ss
 eW:RW W (xb+1) xb ve vf vc X
 ju:W.ownsRow (xb+1) 3 1 vs st.length (st.map iw)
 on:kW W ob 255 fl
 aL:Below w.heap.size w W
 hp:pb<xb
 hw:w.heap.size<=pb
 ho:xb<ob
section
variable {w:ax} {pb xb ob:Nat} {ap:Option Addr} {cp:Nat} {c:ag} {ss:List ag} {ve vf vc vs:ay} {st:List Bool} {fl:Nat->Bool} {X:Wd} {W Z:ax}
theorem uo {b o:Nat}(h:na W b o v)(e:0<v.length->Z.heap[b]?=W.heap[b]?):na Z b o v:=λd f=>by rw[VJ (a:=⟨b,o+d,none⟩) (e (by omega))];exact h d f
theorem fe.aE (h:fe w pb xb ob ap cp c ss ve vf vc vs st fl X W)(d:Below W.heap.size W Z):fe w pb xb ob ap cp c ss ve vf vc vs st fl X Z:=by obtain⟨b,e,i⟩:=h.aY;have j:=h.eW.row.lt;exact⟨h.dS.aE d,⟨b,e,uo i (λf=>d.block b (by have:=(e f).2;omega))⟩,h.eW.aE d,bT h.ju (λk g=>d.block k (h.ju.lt k g).2),aG.aE h.on d,h.aL.tr d,h.hp,h.hw,h.ho⟩
theorem fe.xv {Y:Wd}(h:fe w pb xb ob ap cp c ss ve vf vc vs st fl X W)(j:RW Z (xb+1) xb ve i s Y)(d:Below xb W Z)(f:jn W Z):fe w pb xb ob ap cp c ss ve i s vs st fl Y Z:=by obtain⟨b,e,n⟩:=h.aY;have u:=h.hp;have p:=h.hw;exact⟨h.dS.aL d h.hp,⟨b,e,uo n (λg=>d.block b (e g).2)⟩,j,Oe h.ju f (by decide) (by decide) (by decide),aG.kept h.on f (by decide) (by decide) (by decide),h.aL.trans (d.mono (by omega)),h.hp,h.hw,h.ho⟩
theorem fe.mark (h:fe w pb xb ob ap cp c ss ve vf vc vs st fl X W)(d:Nat):fe w pb xb ob ap cp c ss ve vf vc vs st (nJ fl d) X (W.setCell ⟨ob,d,none⟩ (.bool true)):=by
 obtain⟨b,x,E⟩:=h.aY;have I:=h.hp;have H:=h.hw;have G:=h.ho;have u:∀k,k≠ob->(W.setCell ⟨ob,d,none⟩ (.bool true)).heap[k]?=W.heap[k]?:=λk f=>T5 W ⟨ob,d,none⟩ _ k f;have C:∀(k:Nat) (i:Array ay) (e:TypeId) (g:Nat×Nat),W.heap[k]?=some (Obj.cells i e g)->e≠4->k≠ob:=λk i e g f j D=>by subst D;have:=h.on;unfold kW aG at this;rw[this] at f;cases f;exact j rfl
 have s:∀{B e size n:Nat} {v:ay} {z:List ay},W.ownsRow B e size v n z->e≠4->(W.setCell ⟨ob,d,none⟩ (.bool true)).ownsRow B e size v n z:=λy j=>bT y (λk f=>by obtain⟨i,g,F⟩:=eN y k f;exact u k (C k i _ g F j));exact⟨h.dS.eH (by omega) _ _,⟨b,x,uo E (λA=>u b (by have:=(x A).2;omega))⟩,⟨h.eW.row.eH (by omega) _ _,s h.eW.aX (by decide),s h.eW.aH (by decide),h.eW.lt⟩,s h.ju (by decide),h.on.set d,h.aL.setCell (p:=⟨ob,d,none⟩) (by show _<=ob;omega) _,h.hp,h.hw,h.ho⟩
theorem fe.cF {s :List Bool}{r:Option Nat}(h:fe w pb xb ob ap cp c ss ve vf vc vs st fl X W)(f:W.grownBy Z r)(y:r=none\/r=vs.ownBlock)(I:Z.ownsRow (xb+1) 3 1 i s.length (s.map iw)):fe w pb xb ob ap cp c ss ve vf vc i s fl X Z:=by
 obtain⟨b,C,H⟩:=h.aY;have O:=h.hp;have L:=h.hw;have J:=h.ho;have R:=h.eW.row.lt;have g:∀k,k<=xb->Z.heap[k]?=W.heap[k]?:=λk d=>f.block k (by omega) (λe=>by
  rcases y with rfl|rfl
  ·cases e
  ·have:=(h.ju.lt k e.symm).1;omega)
 have z:∀(k:Nat) (p:Array ay) (e:TypeId) (j:Nat×Nat),W.heap[k]?=some (Obj.cells p e j)->e≠3->Z.heap[k]?=W.heap[k]?:=λk p e j d u=>
  f.block k (TN.1 d).1 (λA=>by
   rcases y with rfl|rfl
   ·cases A
   ·obtain⟨K,M,x⟩:=eN h.ju k A.symm;rw[x] at d;cases d;exact u rfl)
 have E:∀{B e size n:Nat} {v:ay} {F:List ay},W.ownsRow B e size v n F->e≠3->Z.ownsRow B e size v n F:=λD u=>bT D (λk d=>by obtain⟨p,j,x⟩:=eN D k d;exact z k p _ j x u);exact⟨(g pb (by omega)).trans h.dS,⟨b,C,uo H (λG=>g b (by have:=(C G).2;omega))⟩,⟨(g xb ak).trans h.eW.row,E h.eW.aX (by decide),E h.eW.aH (by decide),h.eW.lt⟩,I,(z ob _ _ _ h.on (by decide)).trans h.on,
  h.aL.trans ⟨f.os,f.tape,f.output,f.size,λk d=>g k (by omega)⟩,h.hp,h.hw,h.ho⟩
end
theorem zS:∀(x y:List UInt8),Op.bytesLess x y=decide (x<y)
 |_,[]=>by simp[Op.bytesLess]
 |[],_::_=>by simp[Op.bytesLess]
 |a::x,b::y=>by rw[Op.bytesLess,zS x y,U3];simp[List.cons_lt_cons_iff]
structure jW (f:aI)(aC:List aI)(k:Nat)(put:Bool)(l:List aI):Prop where
 eq:mg f aC=l++(if put then aC.drop k else mg f (aC.drop k))
 le:k<=aC.length
 len:l.length<=k+1
theorem jW.start (f:aI)(d:List aI):jW f d 0 false []:=⟨rfl,TS _,by simp⟩
theorem zU {k:Nat}(h:k<d.length):d.drop k=d[k]::d.drop (k+1):=T2 h
theorem jW.SS {f:aI}{l:List aI}{k:Nat}(h:jW f d k true l)(e:k<d.length)(g:l.length<=k+1):jW f d (k+1) true (l++[d[k]]):=by refine⟨?_,e,by simp;omega⟩;have:=h.eq;rw[TP rfl,zU e] at this;rw[this];simp
theorem jW.vd {f:aI}{l:List aI}{k:Nat}(h:jW f d k false l)(e:k<d.length)(g:f.aJ<d[k].aJ)(i:l.length<=k):jW f d (k+1) true (l++[f]++[d[k]]):=by refine⟨?_,e,by simp;omega⟩;have:=h.eq;rw[TJ (by decide),zU e,mg,TP g] at this;rw[this];simp
theorem jW.on {f:aI}{l:List aI}{k:Nat}(h:jW f d k false l)(e:k<d.length)(g:¬f.aJ<d[k].aJ)(i:l.length<=k):jW f d (k+1) false (l++[d[k]]):=by refine⟨?_,e,by simp;omega⟩;have:=h.eq;rw[TJ (by decide),zU e,mg,TJ g] at this;rw[this];simp
theorem jW.SH {f:aI}{l:List aI}{k:Nat}(h:jW f d k true l)(e:¬k<d.length):mg f d=l:=by have:=h.eq;rw[TP rfl,U_ (by omega)] at this;simpa using this
theorem jW.Sq {f:aI}{l:List aI}{k:Nat}(h:jW f d k false l)(e:¬k<d.length):mg f d=l++[f]:=by have:=h.eq;rw[TJ (by decide),U_ (by omega)] at this;simpa [mg] using this
theorem GV (f:aI):∀d:List aI,(mg f d).length=d.length+1
 |[]=>rfl
 |e::r=>by
  unfold mg;split
  ·rfl
  ·simp[GV f r]
theorem Na (d:List aI)(k:Nat)(h:k<d.length):eX (d.take (k+1))=mg d[k] (eX (d.take k)):=by unfold eX;rw[TW h,VX];rfl
theorem sort_len_aux:∀(e d:List aI),(e.foldl (λd f=>mg f d) d).length=d.length+e.length
 |[],_=>rfl|f::r,d=>by rw[Ux,sort_len_aux r,GV];simp;omega
theorem F3 (d:List aI):(eX d).length=d.length:=by unfold eX;rw[sort_len_aux];simp
structure rj (w:ax)(vc vr:ay)(X:Wd)(aC:List aI)(W:ax):Prop where
 gE:aG W w.heap.size 32 [.slice none 0 0,.slice none 0 0,.int .i64 0,.int .i64 0]
 dt:aG W (w.heap.size+1) 32 [vc,vr,.int .i64 X.exit,.int .i64 X.aP]
 aX:fR W (w.heap.size+2) vr aC
 aL:Below w.heap.size w W
theorem rj.aE {w:ax}{vc:ay}{X:Wd}{Y Z:ax}(h:rj w vc i X d Y)(e:Below Y.heap.size Y Z):rj w vc i X d Z:=⟨h.gE.aE e,h.dt.aE e,h.aX.aE e,h.aL.trans (e.mono (by have:=h.gE.lt;omega))⟩
structure mG (w:ax)(Bl:Nat)(vc vr vl:ay)(X:Wd)(aC l:List aI)(W:ax):Prop where
 jA:rj w vc vr X aC W
 oF:fR W Bl vl l
 ge:w.heap.size+2<=Bl
 oy:∀g,vr.ownBlock=some g->g<Bl
 size:Bl<=W.heap.size
theorem mG.aE {w:ax}{Bl:Nat}{vc:ay}{X:Wd}{l:List aI}{Y Z:ax}(h:mG w Bl vc i s X d l Y)(e:Below Y.heap.size Y Z):mG w Bl vc i s X d l Z:=⟨h.jA.aE e,h.oF.aE e,h.ge,h.oy,TT h.size e.size⟩
theorem mG.push {w:ax}{Bl:Nat}{vc:ay}{X:Wd}{l:List aI}{Y Z:ax}{f:aI}(h:mG w Bl vc i s X d l Y)(g:Y.grownBy Z s.ownBlock)(z:Z.ownsRow Bl 89 3 u (l.length+1) (gK l++fV f)):
 mG w Bl vc i u X d (l++[f]) Z:=by
 have x:=h.ge;have j:∀n,n<Bl->some n≠s.ownBlock:=λn y=>dD h.oF y;refine⟨⟨h.jA.gE.grown g (j _ (by omega)),h.jA.dt.grown g (j _ (by omega)),?_,?_⟩,?_,x,h.oy,TT h.size g.size⟩
 ·have v:i.ownBlock=none\/i.ownBlock≠s.ownBlock:=by
   cases e:i.ownBlock with
   |none=>exact .inl rfl
   |some p=>exact .inr (j p (h.oy p e))
  exact WD h.jA.aX g v
 ·exact h.jA.aL.trans ⟨g.os,g.tape,g.output,g.size,λk A=>g.block k (by have:=h.jA.gE.lt;omega) (j k (by omega))⟩
 ·unfold fR;rw[B5];have:(l++[f]).length=l.length+1:=by simp
  rw[this];exact z
theorem mG.done {w:ax}{Bl:Nat}{vc:ay}{X:Wd}{l:List aI}{Y:ax}(h:mG w Bl vc s i X d l Y):rj w vc i X l (Y.setCell ⟨w.heap.size+1,1,none⟩ i):=by
 have f:=h.ge;have e:fR Y (w.heap.size+2) i l:=by
  refine⟨h.oF.1,?_⟩;rcases h.oF.2 with q|⟨g,cap,cur,h1,h2,h3⟩
  ·exact .inl q
  ·exact .inr ⟨g,cap,cur,h1,TT f h2,h3⟩
 refine⟨h.jA.gE.eH (by omega) _ _,h.jA.dt.set 1 _,dQ e (dD e (by omega)) 1 _,?_⟩;exact h.jA.aL.setCell (p:=⟨w.heap.size+1,1,none⟩) (Ww _) _
theorem uz (f:aI):∀u∈fV f,u.oneCell' =true:=by intro u d;simp[fV,aK] at d;rcases d with rfl|rfl|rfl<;>rfl
theorem PT {w:ax}{B:Nat}{v:ay}(h:fR w B v d){n:Nat}(e:d.length=n):w.ownsRow B 89 3 v n (gK d):=by subst e;exact h
def vw:Option Addr->Nat
 |some a=>a.block
 |none=>0
theorem Fi {w:ax}{B cap:Nat}{a:Option Addr}(h:fR w B (.slice a d.length cap) d)(i:0<d.length):dA w (vw a) 0 d/\a=some ⟨vw a,0,none⟩:=by obtain⟨p,n,j,e,g,f,-⟩:=h.rd;simp only[Yl,abg] at e;obtain⟨rfl,rfl⟩:=e;have:=g i;subst this;exact⟨f,rfl⟩
theorem mG.QE {w:ax}{Bl:Nat}{vc:ay}{X:Wd}{l:List aI}{W:ax}{gk:aI}(h:mG w Bl vc (.slice (some ⟨g,0,none⟩) d.length y) i X d l W)(k:Nat)(n:k<d.length)(p:d[k]=gk):
 W.cell? ⟨w.heap.size+1,1,none⟩=some (.slice (some ⟨g,0,none⟩) d.length y)/\W.cell? ⟨g,k*3,none⟩=some (.string ⟨gk.aJ.toArray⟩)/\W.cell? ⟨g,k*3+1,none⟩=some (.string ⟨gk.aT.toArray⟩)/\W.cell? ⟨g,k*3+2,none⟩=some (.int .i64 gk.jc):=by obtain⟨j,f,e⟩:=(Fi h.jA.aX (by omega)).1 k n;subst p;simp only[Ur] at j f e;exact⟨by simpa using h.jA.dt.cell 1 (by simp),j,f,e⟩
theorem Cf (B Y:Nat)(ve vf:ay)(C:Option Addr)(F A:Nat)(X:Wd)(w:ax)(h:RW w B Y ve vf (.slice C F A) X)(hl:X.aX.length<=8388608):
 Calls prog 50 #[.pointer (some ⟨Y,0,none⟩)] w λe w'=>(∃vr,e= .returned (.agg #[.slice C F A,vr,.int .i64 X.exit,.int .i64 X.aP])/\fR w' (w.heap.size+2) vr (eX X.aX))/\Below w.heap.size w w' :=by
 obtain⟨j0,hj,a5,a0,aR⟩:=UF Tryz.y7;obtain⟨E,c1,c2,c3,c4⟩:=h.cells;have HH:=aB h;have bs:=h.row.lt;have ab:=aB hj;have ah:=aB a5;have ae:=aB a0;have ai:=aB aR;clear h hj a5 a0 aR;go_enter func50,ntmps50;go_wp2_with fail
 go_region
 have a3:Hid (rj w (.slice C F A) (.slice none 0 0) X [] ((w.alloc (.cells #[.slice none 0 0,.slice none 0 0,.int .i64 0,.int .i64 0] 32)).alloc (.cells #[.slice C F A,.slice none 0 0,.int .i64 X.exit,.int .i64 X.aP] 32)).drew):=by have h1:=aG.bA w 32 [.slice none 0 0,.slice none 0 0,.int .i64 0,.int .i64 0];have h2:=aG.bA (w.alloc (.cells #[.slice none 0 0,.slice none 0 0,.int .i64 0,.int .i64 0] 32)) 32 [.slice C F A,.slice none 0 0,.int .i64 X.exit,.int .i64 X.aP];rw[TM] at h2;exact⟨(h1.alloc _).drew,h2.drew,fR.nil _ _,((aj w _).alloc (by rw[TM];omega) _).drew⟩
 clear E c1 c2 c3 c4;go_wp2_with fail
 go_loopw [4] (λaz wr=>∃(k:Nat) (vr:ay),az= .int .i64 k/\k<=X.aX.length/\Hid (rj w (.slice C F A) vr X (eX (X.aX.take k)) wr)) (λaz _=>X.aX.length-aS az)
 case atStart=>exact⟨0,_,rfl,TS _,a3⟩
 case round=>
  clear a3;obtain⟨k,vr,rfl,a_,g⟩:=hrel;have ar:=HH.u.aE g.u.aL;obtain⟨O,cv,gv,rfl,ao,a6,-⟩:=g.u.aX.rd;obtain⟨af,cf,j,rfl,aw,au,-⟩:=ar.aX.rd;obtain⟨E,-,-,-,-⟩:=ar.cells;by_cases hk:k<X.aX.length
  ·obtain rfl:=aw (by omega);obtain⟨H,M,I⟩:=au k hk;have aQ:=aB (Na X.aX k hk);have aO:=F3 (X.aX.take k);rw[Um,VR a_] at aO;have bw:(eX (X.aX.take k)).length<=8388608:=by omega
   clear aO;have bl:=g.u.dt.lt;have aN:Hid (mG w wr.heap.size (.slice C F A) (.slice O (eX (X.aX.take k)).length cv) (.slice none 0 0) X (eX (X.aX.take k)) [] wr):=⟨g.u,fR.nil _ _,by omega,λbb hg=>(g.u.aX.lt bb hg).2,TD _⟩;have a':Hid (∀W,Below w.heap.size w W->W.cell? ⟨Y,0,none⟩=some (.slice (some ⟨j,0,none⟩) X.aX.length cf)/\W.cell? ⟨j,k*3,none⟩=some (.string ⟨X.aX[k].aJ.toArray⟩)/\W.cell? ⟨j,k*3+1,none⟩=some (.string ⟨X.aX[k].aT.toArray⟩)/\W.cell? ⟨j,k*3+2,none⟩=some (.int .i64 X.aX[k].jc)):=by intro W hb;have S:=HH.u.aE hb;obtain⟨a2,c2,g2,e2,h2,r2,-⟩:=S.aX.rd;simp only[Yl,abg] at e2;obtain⟨z,s,D⟩:=r2 k hk;have e3:=h2 (by omega);rw[<-e2.1] at e3;simp only[WN,abc,and_true] at e3;obtain rfl:=e3;simp only[Ur] at z s D;exact⟨S.cells.1,z,s,D⟩
   generalize bc:X.aX[k]=fk at*;generalize bg:eX (X.aX.take k)=aC at*;have t1:(k:Int)<(X.aX.length:Int):=by omega
   clear bc bg ar au aw H M I a6 ao g;generalize ba:wr.heap.size=Bl at*;go_wp2_with fail
   clear E;go_loopw [5,6,7] (λl pt i2 bj=>∃(d:Nat) (L:Bool) (vl:ay) (x:List aI),l=vl/\pt= .bool L/\i2= .int .i64 d/\Hid (jW fk aC d L x)/\Hid (L=false->x.length<=d)/\Hid (mG w Bl (.slice C F A) (.slice O aC.length cv) vl X aC x bj)) (λ_ _ i2 _=>aC.length-aS i2)
   case atStart=>exact⟨0,false,_,[],rfl,rfl,rfl,jW.start fk aC,λ_=>TS _,aN⟩
   case round=>
    clear aN ba;obtain⟨d,L,vl,x,rfl,rfl,rfl,n,bh,i⟩:=hrel;obtain⟨al,cl,gl,rfl,-,-,-⟩:=i.u.oF.rd;obtain⟨E,H,M,I⟩:=a'.u wr i.u.jA.aL;have T:=i.u.jA.dt.cell 1 (by simp);have g1:=i.u.jA.dt.frozen 1;simp only[TG,TI] at T;have aH:=i.u.size;have bq:=i.u.ge;have bk:=n.u.len;have br:=n.u.le;by_cases R:d<aC.length
    ·have U:dA wr (vw O) 0 aC/\O=some ⟨vw O,0,none⟩:=Fi i.u.jA.aX (by omega);obtain⟨U,ao⟩:=U;obtain⟨z,s,D⟩:=U d R;generalize vw O=G at*;subst ao;simp only[Ur] at z s D;unfold aK at z s;have t2:(d:Int)<(aC.length:Int):=by omega
     have HP:=aB (λ(h:jW fk aC d true x)=>h.SS R bk);cases L with
     |true=>
      have HN:=aB (HP.u n.u);generalize an:aC[d]=gk at*;clear n U HP;go_wp2_with fail
      go_quiet (fail)
      have J:=aB (i.u.aE (Below.drewN (TF _ wr) nq));have a8:Bl<=(wr.drewN nq).heap.size:=aH;have y1:(wr.drewN nq).cell? ⟨w.heap.size+1,1,none⟩=_:=T;have x0:(wr.drewN nq).cell? ⟨G,d*3,none⟩=_:=z;have x1:(wr.drewN nq).cell? ⟨G,d*3+1,none⟩=_:=s;have x2:(wr.drewN nq).cell? ⟨G,d*3+2,none⟩=_:=D;have u0:(wr.drewN nq).cell? ⟨Y,0,none⟩=_:=E;have u1:(wr.drewN nq).cell? ⟨j,k*3,none⟩=_:=H;have a1 :(wr.drewN nq).cell? ⟨j,k*3+1,none⟩=_:=M;have aV :(wr.drewN nq).cell? ⟨j,k*3+2,none⟩=_:=I;clear i T z s D E H M I;generalize wr.drewN nq=W5 at*;go_wp2_with (first|(at_builtin;refine Uo _ rfl (.tmp 66) (.tmp 72) 22 rfl Bl 89 j0 _ 3 40 WO ab.u ah.u ae.u ai.u rfl (by decide) _ _ _ rfl (T_ (J.u.oF) _) ⟨_,0,none⟩ 1 1 (fV gk) rfl rfl (gw _ _ (fV gk)) (uz gk) (by unfold maxLen;omega) (by omega) (by rw[TM];omega) ?_;intro vc wc y K ad;obtain⟨gc,a9,rfl,a7,aZ⟩:=d_ y (by omega);have aa:=aB ((UK _ _ _).trans K);have am:=aB y;clear y K ad)|go_in)
      go_roundw
      case rel=>exact⟨d+1,true,_,x++[gk],rfl,rfl,by go_num,HN,λe=>(by cases e),J.u.push aa.u am.u⟩
      case measure=>simp only[aS];omega
     |false=>
      have aW:=bh.u rfl;by_cases V:fk.aJ<aC[d].aJ
      ·have HN:=aB (n.u.vd R V aW);have tl:Op.bytesLess fk.aJ aC[d].aJ=true:=by rw[zS];simpa using V
       generalize an:aC[d]=gk at*;have bf:=aB an;clear n U HP V an;go_wp2_with fail
       go_quiet (fail)
       have J:=aB (i.u.aE (Below.drewN (TF _ wr) nq));have a8:Bl<=(wr.drewN nq).heap.size:=aH;have y1:(wr.drewN nq).cell? ⟨w.heap.size+1,1,none⟩=_:=T;have x0:(wr.drewN nq).cell? ⟨G,d*3,none⟩=_:=z;have x1:(wr.drewN nq).cell? ⟨G,d*3+1,none⟩=_:=s;have x2:(wr.drewN nq).cell? ⟨G,d*3+2,none⟩=_:=D;have u0:(wr.drewN nq).cell? ⟨Y,0,none⟩=_:=E;have u1:(wr.drewN nq).cell? ⟨j,k*3,none⟩=_:=H;have a1 :(wr.drewN nq).cell? ⟨j,k*3+1,none⟩=_:=M;have aV :(wr.drewN nq).cell? ⟨j,k*3+2,none⟩=_:=I;clear i T z s D E H M I;generalize wr.drewN nq=W5 at*;go_wp2_with (first|(at_builtin;refine Uo _ rfl (.tmp 56) (.tmp 64) 22 rfl Bl 89 j0 _ 3 40 WO ab.u ah.u ae.u ai.u rfl (by decide) _ _ _ rfl (T_ (J.u.oF) _) ⟨_,0,none⟩ 1 1 (fV fk) rfl rfl (gw _ _ (fV fk)) (uz fk) (by unfold maxLen;omega) (by omega) (by rw[TM];omega) ?_;intro vq wq aF aY bn;obtain⟨gq,bz,rfl,bB,bt⟩:=d_ aF (by omega);have be:=aB ((UK _ _ _).trans aY);have bi:=aB aF;clear aF aY bn;have aq:=aB (J.u.push (f:=fk) be.u bi.u);obtain⟨z1,r0,r1,r2⟩:=aq.u.QE d R bf.u;have bD:=aq.u.size)|(at_builtin;refine Uo _ rfl (.tmp 66) (.tmp 72) 22 rfl Bl 89 j0 _ 3 40 WO ab.u ah.u ae.u ai.u rfl (by decide) _ (x.length+1) _ rfl (T_ (PT aq.u.oF (by simp)) _) ⟨_,0,none⟩ 1 1 (fV gk) rfl rfl (gw _ _ (fV gk)) (uz gk) (by unfold maxLen;omega) (by omega) (by rw[TM];omega) ?_;intro vc wc y K ad;obtain⟨gc,a9,rfl,a7,aZ⟩:=d_ y (by omega);have aa:=aB ((UK _ _ _).trans K);have am:=aB y;clear y K ad)|go_in)
       go_roundw
       case rel=>exact⟨d+1,true,_,x++[fk]++[gk],rfl,rfl,by go_num,HN,λe=>(by cases e),aq.u.push aa.u (by rw[show (x++[fk]).length=x.length+1 from by simp];exact am.u)⟩
       case measure=>simp only[aS];omega
      ·have HN:=aB (n.u.on R V aW);have tl:Op.bytesLess fk.aJ aC[d].aJ=false:=by rw[zS];simpa using V
       generalize an:aC[d]=gk at*;clear n U HP V;go_wp2_with fail
       go_quiet (fail)
       have J:=aB (i.u.aE (Below.drewN (TF _ wr) nq));have a8:Bl<=(wr.drewN nq).heap.size:=aH;have y1:(wr.drewN nq).cell? ⟨w.heap.size+1,1,none⟩=_:=T;have x0:(wr.drewN nq).cell? ⟨G,d*3,none⟩=_:=z;have x1:(wr.drewN nq).cell? ⟨G,d*3+1,none⟩=_:=s;have x2:(wr.drewN nq).cell? ⟨G,d*3+2,none⟩=_:=D;have u0:(wr.drewN nq).cell? ⟨Y,0,none⟩=_:=E;have u1:(wr.drewN nq).cell? ⟨j,k*3,none⟩=_:=H;have a1 :(wr.drewN nq).cell? ⟨j,k*3+1,none⟩=_:=M;have aV :(wr.drewN nq).cell? ⟨j,k*3+2,none⟩=_:=I;clear i T z s D E H M I;generalize wr.drewN nq=W5 at*;go_wp2_with (first|(at_builtin;refine Uo _ rfl (.tmp 66) (.tmp 72) 22 rfl Bl 89 j0 _ 3 40 WO ab.u ah.u ae.u ai.u rfl (by decide) _ _ _ rfl (T_ (J.u.oF) _) ⟨_,0,none⟩ 1 1 (fV gk) rfl rfl (gw _ _ (fV gk)) (uz gk) (by unfold maxLen;omega) (by omega) (by rw[TM];omega) ?_;intro vc wc y K ad;obtain⟨gc,a9,rfl,a7,aZ⟩:=d_ y (by omega);have aa:=aB ((UK _ _ _).trans K);have am:=aB y;clear y K ad)|go_in)
       go_roundw
       case rel=>exact⟨d+1,false,_,x++[gk],rfl,rfl,by go_num,HN,λ_=>(by simp;omega),J.u.push aa.u am.u⟩
       case measure=>simp only[aS];omega
    ·cases L with
     |true=>
      have HD:=aB (n.u.SH R);have bm:=aB i.u.done;clear n;go_wp2_with fail
      go_roundw
      case rel=>exact⟨k+1,_,by go_num,by omega,by rw[aQ.u,HD.u];exact bm.u⟩
      case measure=>simp only[aS];omega
     |false=>
      have HD:=aB (n.u.Sq R);clear n;go_wp2_with (first|(at_builtin;refine Uo _ rfl (.tmp 76) (.tmp 84) 22 rfl Bl 89 j0 _ 3 40 WO ab.u ah.u ae.u ai.u rfl (by decide) _ _ _ rfl (T_ (i.u.oF) _) ⟨_,0,none⟩ 1 1 (fV fk) rfl rfl (gw _ _ (fV fk)) (uz fk) (by unfold maxLen;omega) (by omega) (by rw[TM];omega) ?_;intro ve we aD a4 bo;obtain⟨ge,bu,rfl,bl,bC⟩:=d_ aD (by omega);have bd:=aB ((UK _ _ _).trans a4);have bp:=aB aD;clear aD a4 bo;have aA:=aB (i.u.push (f:=fk) bd.u bp.u);have z1:=aA.u.jA.dt.cell 1 (by simp);have z2:=aA.u.jA.dt.frozen 1;simp only[TG,TI] at z1)|go_in)
      go_roundw
      case rel=>exact⟨k+1,_,by go_num,by omega,by rw[aQ.u,HD.u];exact aA.u.done⟩
      case measure=>simp only[aS];omega
  ·have aM:X.aX.take k=X.aX:=Uh (by omega);rw[aM] at g;have b0:=g.u.dt.cell 0 (by simp);have b1:=g.u.dt.cell 1 (by simp);have L:=g.u.dt.cell 2 (by simp);have b3:=g.u.dt.cell 3 (by simp);have r0:=g.u.gE.cell 0 (by simp);have r1:=g.u.gE.cell 1 (by simp);have r2:=g.u.gE.cell 2 (by simp);have r3:=g.u.gE.cell 3 (by simp);simp only[TG,TI] at b0 b1 L b3 r0 r1 r2 r3;have f0:=g.u.gE.frozen 0;have f1:=g.u.gE.frozen 1;have f2:=g.u.gE.frozen 2;have f3:=g.u.gE.frozen 3;have bv:=aB aM;clear aM ar au aw a6 ao;go_wp2_with fail
   have S:=(((g.u.gE.set 0 (.slice C F A)).set 1 (.slice O (eX X.aX).length cv)).set 2 (.int .i64 X.exit)).set 3 (.int .i64 X.aP);have o0:=S.cell 0 (by simp);have o1:=S.cell 1 (by simp);have o2:=S.cell 2 (by simp);have o3:=S.cell 3 (by simp);simp only[VZ,VM,TG,TI] at o0 o1 o2 o3;have aU:=dD g.u.aX (N:=w.heap.size) (by omega);refine Ua (v:= .agg #[.slice C F A,.slice O (eX X.aX).length cv,.int .i64 X.exit,.int .i64 X.aP]) ?_ rfl ⟨⟨_,rfl,dQ (dQ (dQ (dQ g.u.aX aU _ _) aU _ _) aU _ _) aU _ _⟩,(((g.u.aL.setCell (p:=⟨w.heap.size,0,none⟩) ak _).setCell (p:=⟨w.heap.size,1,none⟩) ak _).setCell (p:=⟨w.heap.size,2,none⟩) ak _).setCell (p:=⟨w.heap.size,3,none⟩) ak _⟩;simp[results,results50,go_sem,o0,o1,o2,o3]
open Shelf
theorem O6 {s:ag}{ss:List ag}{c:ag}(h:Pl.load s=some (ss,c)):c.length<=s.length/\ss.length<=1000:=by
 unfold Pl.load at h;split at h
 ·rename_i d;have:=wI _ _ _ h;simp only[UM] at this;omega
 ·cases h
end Go.Proofs.YtjelacjggijmfaaGreatDoor
namespace Go.Proofs
open Shelf
def Tryz.iz:Go.Shelf.Ren:=⟨fun|99=>158|100=>123|102=>207|103=>126|104=>291|119=>279|120=>277|137=>278|138=>266|143=>186|144=>140|145=>160|151=>247|152=>251|153=>213|154=>272|155=>235|156=>144|160=>147|161=>250|162=>209|165=>191|166=>75|167=>78|169=>79|170=>243|193=>228|195=>286|197=>246|206=>210|207=>165|209=>249|210=>167|211=>293|217=>268|218=>287|219=>234|220=>211|224=>270|225=>269|226=>252|227=>201|228=>245|229=>216|231=>199|232=>200|233=>202|234=>203|235=>204|236=>205|240=>122|241=>242|260=>276|266=>289|267=>271|271=>248|276=>164|277=>274|314=>290|n=>n,fun|0=>0|3=>3|4=>4|5=>5|9=>9|20=>20|21=>21|24=>143|31=>30|37=>126|40=>330|46=>335|51=>365|59=>245|70=>156|72=>158|75=>166|76=>167|80=>112|105=>350|116=>324|117=>325|119=>383|124=>328|127=>241|138=>385|139=>386|146=>381|152=>354|154=>356|164=>292|n=>n,fun|1=>0|3=>1|4=>2|n=>n⟩
theorem Tryz.RD:Go.Proofs.Lays.n166 prog Tryz.iz:={
 mixed:=by kernel_rfl
 f166:=aa0.trans (TU some (by kernel_rfl))
 f240:=Yp.trans (TU some (by kernel_rfl))
 f276:=Zp.trans (TU some (by kernel_rfl))
 t0:=Vr
 a0:=Wx
 z0:=Wf
 v0:=VB
 t3:=UJ
 a3:=Vu
 z3:=Vi
 v3:=UU
 t4:=UN
 a4:=Vv
 z4:=Vj
 v4:=UW
 t9:=T0
 a9:=Vo
 z9:=Vd
 v9:=UP
 t20:=Yq
 a20:=aao
 z20:=ZZ
 v20:=YX
 t37:=Ui
 a37:=Y3
 z37:=Yr
 v37:=XI
 t70:=Wi
 a70:=Y4
 z70:=Ys
 v70:=XJ
 t72:=Xt
 a72:=Y5
 z72:=Yt
 v72:=XK
 t75:=X7
 a75:=Z0
 z75:=Zt
 v75:=Yu
 t164:=WW
 a164:=Z1
 z164:=Zu
 v164:=Yv}
theorem Tryz.Rj:Go.Proofs.Lays.n167 prog Tryz.iz:={
 mixed:=by kernel_rfl
 f167:=Tryz.func78.trans (TU some (by kernel_rfl))
 f240:=Yp.trans (TU some (by kernel_rfl))
 f276:=Zp.trans (TU some (by kernel_rfl))
 t0:=Vr
 a0:=Wx
 z0:=Wf
 v0:=VB
 t4:=UN
 a4:=Vv
 z4:=Vj
 v4:=UW
 t5:=U7
 a5:=WL
 z5:=Wt
 v5:=VS
 t9:=T0
 a9:=Vo
 z9:=Vd
 v9:=UP
 t20:=Yq
 a20:=aao
 z20:=ZZ
 v20:=YX
 t37:=Ui
 a37:=Y3
 z37:=Yr
 v37:=XI
 t70:=Wi
 a70:=Y4
 z70:=Ys
 v70:=XJ
 t72:=Xt
 a72:=Y5
 z72:=Yt
 v72:=XK
 t75:=X7
 a75:=Z0
 z75:=Zt
 v75:=Yu
 t164:=WW
 a164:=Z1
 z164:=Zu
 v164:=Yv}
theorem Tryz.Rs:Go.Proofs.Lays.n169 prog Tryz.iz:={
 mixed:=by kernel_rfl
 f169:=ZP.trans (TU some (by kernel_rfl))
 t0:=Vr
 a0:=Wx
 z0:=Wf
 v0:=VB
 t3:=UJ
 a3:=Vu
 z3:=Vi
 v3:=UU
 t9:=T0
 a9:=Vo
 z9:=Vd
 v9:=UP
 t37:=Ui
 a37:=Y3
 z37:=Yr
 v37:=XI
 t70:=Wi
 a70:=Y4
 z70:=Ys
 v70:=XJ
 t72:=Xt
 a72:=Y5
 z72:=Yt
 v72:=XK
 t127:=X8
 a127:=isAgg241
 z127:=sizeOf241
 v127:=ZQ}
theorem Tryz.H_:Go.Proofs.Lays.n156 prog Tryz.iz:={
 mixed:=by kernel_rfl
 f156:=Tryz.func144.trans (TU some (by kernel_rfl))
 f165:=Tryz.func191.trans (TU some (by kernel_rfl))
 f166:=aa0.trans (TU some (by kernel_rfl))
 f169:=ZP.trans (TU some (by kernel_rfl))
 f240:=Yp.trans (TU some (by kernel_rfl))
 f241:=Tryz.func242.trans (TU some (by kernel_rfl))
 f276:=Zp.trans (TU some (by kernel_rfl))
 f277:=Tryz.func274.trans (TU some (by kernel_rfl))
 t0:=Vr
 a0:=Wx
 z0:=Wf
 v0:=VB
 t3:=UJ
 a3:=Vu
 z3:=Vi
 v3:=UU
 t4:=UN
 a4:=Vv
 z4:=Vj
 v4:=UW
 t9:=T0
 a9:=Vo
 z9:=Vd
 v9:=UP
 t20:=Yq
 a20:=aao
 z20:=ZZ
 v20:=YX
 t31:=UC
 a31:=isAgg30
 z31:=sizeOf30
 v31:=aai
 t37:=Ui
 a37:=Y3
 z37:=Yr
 v37:=XI
 t70:=Wi
 a70:=Y4
 z70:=Ys
 v70:=XJ
 t72:=Xt
 a72:=Y5
 z72:=Yt
 v72:=XK
 t75:=X7
 a75:=Z0
 z75:=Zt
 v75:=Yu
 t76:=underlying167
 a76:=isAgg167
 z76:=sizeOf167
 v76:=zeroValue167
 t127:=X8
 a127:=isAgg241
 z127:=sizeOf241
 v127:=ZQ
 t164:=WW
 a164:=Z1
 z164:=Zu
 v164:=Yv}
theorem Tryz.Rv:Go.Proofs.Lays.n160 prog Tryz.iz:={
 mixed:=by kernel_rfl
 f119:=Yw.trans (TU some (by kernel_rfl))
 f120:=Tryz.func277.trans (TU some (by kernel_rfl))
 f137:=Yx.trans (TU some (by kernel_rfl))
 f151:=Tryz.func247.trans (TU some (by kernel_rfl))
 f152:=Xu.trans (TU some (by kernel_rfl))
 f160:=Tryz.func147.trans (TU some (by kernel_rfl))
 f197:=aap.trans (TU some (by kernel_rfl))
 f217:=WR.trans (TU some (by kernel_rfl))
 f224:=Xa.trans (TU some (by kernel_rfl))
 f225:=Xb.trans (TU some (by kernel_rfl))
 f227:=aaq.trans (TU some (by kernel_rfl))
 f228:=aar.trans (TU some (by kernel_rfl))
 f231:=Tryz.func199.trans (TU some (by kernel_rfl))
 f232:=Tryz.func200.trans (TU some (by kernel_rfl))
 f233:=Tryz.func202.trans (TU some (by kernel_rfl))
 f234:=Tryz.func203.trans (TU some (by kernel_rfl))
 f235:=Tryz.func204.trans (TU some (by kernel_rfl))
 f236:=Tryz.func205.trans (TU some (by kernel_rfl))
 f260:=aas.trans (TU some (by kernel_rfl))
 f266:=WS.trans (TU some (by kernel_rfl))
 f271:=Tryz.func248.trans (TU some (by kernel_rfl))
 t0:=Vr
 a0:=Wx
 z0:=Wf
 v0:=VB
 t3:=UJ
 a3:=Vu
 z3:=Vi
 v3:=UU
 t4:=UN
 a4:=Vv
 z4:=Vj
 v4:=UW
 t5:=U7
 a5:=WL
 z5:=Wt
 v5:=VS
 t9:=T0
 a9:=Vo
 z9:=Vd
 v9:=UP
 t21:=Wu
 a21:=Xv
 z21:=Xf
 v21:=WG
 t46:=V0
 a46:=WU
 z46:=WM
 v46:=Wa
 t105:=X9
 a105:=Z2
 z105:=Zv
 v105:=Yy
 t116:=X_
 a116:=Z3
 z116:=Zw
 t117:=Ya
 a117:=Z4
 z117:=Zx
 v117:=Yz
 t119:=Yb
 a119:=Z5
 z119:=Zy
 t124:=Yc
 a124:=Z6
 z124:=Zz
 v124:=YA
 t138:=Yd
 a138:=Z7
 z138:=ZA
 v138:=YB
 t139:=Ye
 a139:=Z8
 z139:=ZB
 v139:=YC
 g3:=by kernel_rfl
 g4:=by kernel_rfl}
theorem Tryz.Q_:Go.Proofs.Lays.n161 prog Tryz.iz:={
 mixed:=by kernel_rfl
 f119:=Yw.trans (TU some (by kernel_rfl))
 f137:=Yx.trans (TU some (by kernel_rfl))
 f151:=Tryz.func247.trans (TU some (by kernel_rfl))
 f152:=Xu.trans (TU some (by kernel_rfl))
 f161:=Tryz.func250.trans (TU some (by kernel_rfl))
 f197:=aap.trans (TU some (by kernel_rfl))
 f217:=WR.trans (TU some (by kernel_rfl))
 f224:=Xa.trans (TU some (by kernel_rfl))
 f225:=Xb.trans (TU some (by kernel_rfl))
 f227:=aaq.trans (TU some (by kernel_rfl))
 f228:=aar.trans (TU some (by kernel_rfl))
 f231:=Tryz.func199.trans (TU some (by kernel_rfl))
 f233:=Tryz.func202.trans (TU some (by kernel_rfl))
 f235:=Tryz.func204.trans (TU some (by kernel_rfl))
 f260:=aas.trans (TU some (by kernel_rfl))
 f266:=WS.trans (TU some (by kernel_rfl))
 t0:=Vr
 a0:=Wx
 z0:=Wf
 v0:=VB
 t3:=UJ
 a3:=Vu
 z3:=Vi
 v3:=UU
 t4:=UN
 a4:=Vv
 z4:=Vj
 v4:=UW
 t5:=U7
 a5:=WL
 z5:=Wt
 v5:=VS
 t9:=T0
 a9:=Vo
 z9:=Vd
 v9:=UP
 t21:=Wu
 a21:=Xv
 z21:=Xf
 v21:=WG
 t46:=V0
 a46:=WU
 z46:=WM
 v46:=Wa
 t105:=X9
 a105:=Z2
 z105:=Zv
 v105:=Yy
 t116:=X_
 a116:=Z3
 z116:=Zw
 t117:=Ya
 a117:=Z4
 z117:=Zx
 v117:=Yz
 t119:=Yb
 a119:=Z5
 z119:=Zy
 t124:=Yc
 a124:=Z6
 z124:=Zz
 v124:=YA
 t138:=Yd
 a138:=Z7
 z138:=ZA
 v138:=YB
 t139:=Ye
 a139:=Z8
 z139:=ZB
 v139:=YC
 g3:=by kernel_rfl
 g4:=by kernel_rfl}
theorem Tryz.Rw:Go.Proofs.Lays.n162 prog Tryz.iz:={
 mixed:=by kernel_rfl
 f119:=Yw.trans (TU some (by kernel_rfl))
 f120:=Tryz.func277.trans (TU some (by kernel_rfl))
 f137:=Yx.trans (TU some (by kernel_rfl))
 f151:=Tryz.func247.trans (TU some (by kernel_rfl))
 f152:=Xu.trans (TU some (by kernel_rfl))
 f162:=Tryz.func209.trans (TU some (by kernel_rfl))
 f197:=aap.trans (TU some (by kernel_rfl))
 f217:=WR.trans (TU some (by kernel_rfl))
 f224:=Xa.trans (TU some (by kernel_rfl))
 f225:=Xb.trans (TU some (by kernel_rfl))
 f227:=aaq.trans (TU some (by kernel_rfl))
 f228:=aar.trans (TU some (by kernel_rfl))
 f232:=Tryz.func200.trans (TU some (by kernel_rfl))
 f234:=Tryz.func203.trans (TU some (by kernel_rfl))
 f236:=Tryz.func205.trans (TU some (by kernel_rfl))
 f260:=aas.trans (TU some (by kernel_rfl))
 f266:=WS.trans (TU some (by kernel_rfl))
 f271:=Tryz.func248.trans (TU some (by kernel_rfl))
 t0:=Vr
 a0:=Wx
 z0:=Wf
 v0:=VB
 t3:=UJ
 a3:=Vu
 z3:=Vi
 v3:=UU
 t4:=UN
 a4:=Vv
 z4:=Vj
 v4:=UW
 t5:=U7
 a5:=WL
 z5:=Wt
 v5:=VS
 t9:=T0
 a9:=Vo
 z9:=Vd
 v9:=UP
 t21:=Wu
 a21:=Xv
 z21:=Xf
 v21:=WG
 t46:=V0
 a46:=WU
 z46:=WM
 v46:=Wa
 t105:=X9
 a105:=Z2
 z105:=Zv
 v105:=Yy
 t116:=X_
 a116:=Z3
 z116:=Zw
 t117:=Ya
 a117:=Z4
 z117:=Zx
 v117:=Yz
 t119:=Yb
 a119:=Z5
 z119:=Zy
 t124:=Yc
 a124:=Z6
 z124:=Zz
 v124:=YA
 t138:=Yd
 a138:=Z7
 z138:=ZA
 v138:=YB
 t139:=Ye
 a139:=Z8
 z139:=ZB
 v139:=YC
 g3:=by kernel_rfl
 g4:=by kernel_rfl}
theorem Tryz.RL:Go.Proofs.Lays.n145 prog Tryz.iz:={
 mixed:=by kernel_rfl
 f145:=Tryz.func160.trans (TU some (by kernel_rfl))
 f217:=WR.trans (TU some (by kernel_rfl))
 f219:=aat.trans (TU some (by kernel_rfl))
 f220:=Tryz.func211.trans (TU some (by kernel_rfl))
 f224:=Xa.trans (TU some (by kernel_rfl))
 f225:=Xb.trans (TU some (by kernel_rfl))
 f266:=WS.trans (TU some (by kernel_rfl))
 f267:=aau.trans (TU some (by kernel_rfl))
 f314:=aav.trans (TU some (by kernel_rfl))
 t3:=UJ
 a3:=Vu
 z3:=Vi
 v3:=UU
 t4:=UN
 a4:=Vv
 z4:=Vj
 v4:=UW
 t5:=U7
 a5:=WL
 z5:=Wt
 v5:=VS
 t9:=T0
 a9:=Vo
 z9:=Vd
 v9:=UP
 t46:=V0
 a46:=WU
 z46:=WM
 v46:=Wa
 t51:=Yf
 a51:=Z9
 z51:=ZC
 v51:=YD
 t59:=underlying245
 a59:=isAgg245
 z59:=sizeOf245
 v59:=zeroValue245
 t146:=Yg
 a146:=Z_
 z146:=ZD
 v146:=YE
 g1:=by kernel_rfl}
theorem Tryz.Ht:Go.Proofs.Lays.n144 prog Tryz.iz:={
 mixed:=by kernel_rfl
 f143:=Tryz.func186.trans (TU some (by kernel_rfl))
 f144:=Tryz.func140.trans (TU some (by kernel_rfl))
 f217:=WR.trans (TU some (by kernel_rfl))
 f219:=aat.trans (TU some (by kernel_rfl))
 f224:=Xa.trans (TU some (by kernel_rfl))
 f225:=Xb.trans (TU some (by kernel_rfl))
 f266:=WS.trans (TU some (by kernel_rfl))
 f267:=aau.trans (TU some (by kernel_rfl))
 f314:=aav.trans (TU some (by kernel_rfl))
 t3:=UJ
 a3:=Vu
 z3:=Vi
 v3:=UU
 t4:=UN
 a4:=Vv
 z4:=Vj
 v4:=UW
 t5:=U7
 a5:=WL
 z5:=Wt
 v5:=VS
 t9:=T0
 a9:=Vo
 z9:=Vd
 v9:=UP
 t46:=V0
 a46:=WU
 z46:=WM
 v46:=Wa
 t51:=Yf
 a51:=Z9
 z51:=ZC
 v51:=YD
 t146:=Yg
 a146:=Z_
 z146:=ZD
 v146:=YE
 g1:=by kernel_rfl}
theorem Tryz.Rz:Go.Proofs.Lays.n138 prog Tryz.iz:={
 mixed:=by kernel_rfl
 f138:=Tryz.func266.trans (TU some (by kernel_rfl))
 f143:=Tryz.func186.trans (TU some (by kernel_rfl))
 f195:=Tryz.func286.trans (TU some (by kernel_rfl))
 f217:=WR.trans (TU some (by kernel_rfl))
 f218:=Tryz.func287.trans (TU some (by kernel_rfl))
 f219:=aat.trans (TU some (by kernel_rfl))
 f224:=Xa.trans (TU some (by kernel_rfl))
 f225:=Xb.trans (TU some (by kernel_rfl))
 f266:=WS.trans (TU some (by kernel_rfl))
 f267:=aau.trans (TU some (by kernel_rfl))
 f314:=aav.trans (TU some (by kernel_rfl))
 t0:=Vr
 a0:=Wx
 z0:=Wf
 v0:=VB
 t3:=UJ
 a3:=Vu
 z3:=Vi
 v3:=UU
 t4:=UN
 a4:=Vv
 z4:=Vj
 v4:=UW
 t5:=U7
 a5:=WL
 z5:=Wt
 v5:=VS
 t9:=T0
 a9:=Vo
 z9:=Vd
 v9:=UP
 t46:=V0
 a46:=WU
 z46:=WM
 v46:=Wa
 t51:=Yf
 a51:=Z9
 z51:=ZC
 v51:=YD
 t146:=Yg
 a146:=Z_
 z146:=ZD
 v146:=YE
 g1:=by kernel_rfl}
theorem Tryz.Q2:Go.Proofs.Lays.n104 prog Tryz.iz:={
 mixed:=by kernel_rfl
 f104:=Tryz.func291.trans (TU some (by kernel_rfl))
 f207:=Tryz.func165.trans (TU some (by kernel_rfl))
 f211:=Tryz.func293.trans (TU some (by kernel_rfl))
 t3:=UJ
 a3:=Vu
 z3:=Vi
 v3:=UU
 t4:=UN
 a4:=Vv
 z4:=Vj
 v4:=UW
 t9:=T0
 a9:=Vo
 z9:=Vd
 v9:=UP
 t24:=underlying143
 a24:=isAgg143
 z24:=sizeOf143
 v24:=zeroValue143}
theorem Tryz.RM:Go.Proofs.Lays.n155 prog Tryz.iz:={
 mixed:=by kernel_rfl
 f138:=Tryz.func266.trans (TU some (by kernel_rfl))
 f143:=Tryz.func186.trans (TU some (by kernel_rfl))
 f154:=Tryz.func272.trans (TU some (by kernel_rfl))
 f155:=Tryz.func235.trans (TU some (by kernel_rfl))
 f165:=Tryz.func191.trans (TU some (by kernel_rfl))
 f166:=aa0.trans (TU some (by kernel_rfl))
 f169:=ZP.trans (TU some (by kernel_rfl))
 f195:=Tryz.func286.trans (TU some (by kernel_rfl))
 f197:=aap.trans (TU some (by kernel_rfl))
 f217:=WR.trans (TU some (by kernel_rfl))
 f218:=Tryz.func287.trans (TU some (by kernel_rfl))
 f219:=aat.trans (TU some (by kernel_rfl))
 f224:=Xa.trans (TU some (by kernel_rfl))
 f225:=Xb.trans (TU some (by kernel_rfl))
 f240:=Yp.trans (TU some (by kernel_rfl))
 f241:=Tryz.func242.trans (TU some (by kernel_rfl))
 f260:=aas.trans (TU some (by kernel_rfl))
 f266:=WS.trans (TU some (by kernel_rfl))
 f267:=aau.trans (TU some (by kernel_rfl))
 f276:=Zp.trans (TU some (by kernel_rfl))
 f277:=Tryz.func274.trans (TU some (by kernel_rfl))
 f314:=aav.trans (TU some (by kernel_rfl))
 t0:=Vr
 a0:=Wx
 z0:=Wf
 v0:=VB
 t3:=UJ
 a3:=Vu
 z3:=Vi
 v3:=UU
 t4:=UN
 a4:=Vv
 z4:=Vj
 v4:=UW
 t5:=U7
 a5:=WL
 z5:=Wt
 v5:=VS
 t9:=T0
 a9:=Vo
 z9:=Vd
 v9:=UP
 t20:=Yq
 a20:=aao
 z20:=ZZ
 v20:=YX
 t21:=Wu
 a21:=Xv
 z21:=Xf
 v21:=WG
 t37:=Ui
 a37:=Y3
 z37:=Yr
 v37:=XI
 t46:=V0
 a46:=WU
 z46:=WM
 v46:=Wa
 t51:=Yf
 a51:=Z9
 z51:=ZC
 v51:=YD
 t70:=Wi
 a70:=Y4
 z70:=Ys
 v70:=XJ
 t72:=Xt
 a72:=Y5
 z72:=Yt
 v72:=XK
 t75:=X7
 a75:=Z0
 z75:=Zt
 v75:=Yu
 t76:=underlying167
 a76:=isAgg167
 z76:=sizeOf167
 v76:=zeroValue167
 t105:=X9
 a105:=Z2
 z105:=Zv
 v105:=Yy
 t119:=Yb
 a119:=Z5
 z119:=Zy
 t127:=X8
 a127:=isAgg241
 z127:=sizeOf241
 v127:=ZQ
 t138:=Yd
 a138:=Z7
 z138:=ZA
 v138:=YB
 t139:=Ye
 a139:=Z8
 z139:=ZB
 v139:=YC
 t146:=Yg
 a146:=Z_
 z146:=ZD
 v146:=YE
 t164:=WW
 a164:=Z1
 z164:=Zu
 v164:=Yv
 g1:=by kernel_rfl
 g3:=by kernel_rfl
 g4:=by kernel_rfl}
theorem Tryz.Rq:Go.Proofs.Lays.n193 prog Tryz.iz:={
 mixed:=by kernel_rfl
 f193:=Tryz.func228.trans (TU some (by kernel_rfl))
 t0:=Vr
 a0:=Wx
 z0:=Wf
 v0:=VB
 t3:=UJ
 a3:=Vu
 z3:=Vi
 v3:=UU
 t4:=UN
 a4:=Vv
 z4:=Vj
 v4:=UW
 t9:=T0
 a9:=Vo
 z9:=Vd
 v9:=UP
 t31:=UC
 a31:=isAgg30
 z31:=sizeOf30
 v31:=aai}
theorem Tryz.Sb:Go.Proofs.Lays.n99 prog Tryz.iz:={
 mixed:=by kernel_rfl
 f99:=Tryz.func158.trans (TU some (by kernel_rfl))
 f206:=Tryz.func210.trans (TU some (by kernel_rfl))
 t3:=UJ
 a3:=Vu
 z3:=Vi
 v3:=UU
 t4:=UN
 a4:=Vv
 z4:=Vj
 v4:=UW
 t9:=T0
 a9:=Vo
 z9:=Vd
 v9:=UP}
theorem Tryz.RE:Go.Proofs.Lays.n100 prog Tryz.iz:={
 mixed:=by kernel_rfl
 f100:=Tryz.func123.trans (TU some (by kernel_rfl))
 f207:=Tryz.func165.trans (TU some (by kernel_rfl))
 t3:=UJ
 a3:=Vu
 z3:=Vi
 v3:=UU
 t4:=UN
 a4:=Vv
 z4:=Vj
 v4:=UW
 t9:=T0
 a9:=Vo
 z9:=Vd
 v9:=UP}
theorem Tryz.RQ:Go.Proofs.Lays.n102 prog Tryz.iz:={
 mixed:=by kernel_rfl
 f102:=Tryz.func207.trans (TU some (by kernel_rfl))
 f207:=Tryz.func165.trans (TU some (by kernel_rfl))
 f209:=Tryz.func249.trans (TU some (by kernel_rfl))
 t3:=UJ
 a3:=Vu
 z3:=Vi
 v3:=UU
 t4:=UN
 a4:=Vv
 z4:=Vj
 v4:=UW
 t9:=T0
 a9:=Vo
 z9:=Vd
 v9:=UP}
theorem Tryz.Hl:Go.Proofs.Lays.n103 prog Tryz.iz:={
 mixed:=by kernel_rfl
 f103:=Tryz.func126.trans (TU some (by kernel_rfl))
 f206:=Tryz.func210.trans (TU some (by kernel_rfl))
 f210:=Tryz.func167.trans (TU some (by kernel_rfl))
 t3:=UJ
 a3:=Vu
 z3:=Vi
 v3:=UU
 t4:=UN
 a4:=Vv
 z4:=Vj
 v4:=UW
 t9:=T0
 a9:=Vo
 z9:=Vd
 v9:=UP
 t24:=underlying143
 a24:=isAgg143
 z24:=sizeOf143
 v24:=zeroValue143}
theorem Tryz.Rk:Go.Proofs.Lays.n152 prog Tryz.iz:={
 mixed:=by kernel_rfl
 f119:=Yw.trans (TU some (by kernel_rfl))
 f137:=Yx.trans (TU some (by kernel_rfl))
 f152:=Xu.trans (TU some (by kernel_rfl))
 f217:=WR.trans (TU some (by kernel_rfl))
 f224:=Xa.trans (TU some (by kernel_rfl))
 f225:=Xb.trans (TU some (by kernel_rfl))
 f266:=WS.trans (TU some (by kernel_rfl))
 t0:=Vr
 a0:=Wx
 z0:=Wf
 v0:=VB
 t3:=UJ
 a3:=Vu
 z3:=Vi
 v3:=UU
 t4:=UN
 a4:=Vv
 z4:=Vj
 v4:=UW
 t5:=U7
 a5:=WL
 z5:=Wt
 v5:=VS
 t9:=T0
 a9:=Vo
 z9:=Vd
 v9:=UP
 t21:=Wu
 a21:=Xv
 z21:=Xf
 v21:=WG
 t46:=V0
 a46:=WU
 z46:=WM
 v46:=Wa}
theorem Tryz.Rc:Go.Proofs.Lays.n153 prog Tryz.iz:={
 mixed:=by kernel_rfl
 f119:=Yw.trans (TU some (by kernel_rfl))
 f137:=Yx.trans (TU some (by kernel_rfl))
 f152:=Xu.trans (TU some (by kernel_rfl))
 f153:=Tryz.func213.trans (TU some (by kernel_rfl))
 f217:=WR.trans (TU some (by kernel_rfl))
 f224:=Xa.trans (TU some (by kernel_rfl))
 f225:=Xb.trans (TU some (by kernel_rfl))
 f226:=Tryz.func252.trans (TU some (by kernel_rfl))
 f227:=aaq.trans (TU some (by kernel_rfl))
 f228:=aar.trans (TU some (by kernel_rfl))
 f266:=WS.trans (TU some (by kernel_rfl))
 t0:=Vr
 a0:=Wx
 z0:=Wf
 v0:=VB
 t3:=UJ
 a3:=Vu
 z3:=Vi
 v3:=UU
 t4:=UN
 a4:=Vv
 z4:=Vj
 v4:=UW
 t5:=U7
 a5:=WL
 z5:=Wt
 v5:=VS
 t9:=T0
 a9:=Vo
 z9:=Vd
 v9:=UP
 t21:=Wu
 a21:=Xv
 z21:=Xf
 v21:=WG
 t46:=V0
 a46:=WU
 z46:=WM
 v46:=Wa
 t116:=X_
 a116:=Z3
 z116:=Zw
 t117:=Ya
 a117:=Z4
 z117:=Zx
 v117:=Yz
 t124:=Yc
 a124:=Z6
 z124:=Zz
 v124:=YA}
theorem Tryz.RN:Go.Proofs.Lays.n229 prog Tryz.iz:={
 mixed:=by kernel_rfl
 f229:=Tryz.func216.trans (TU some (by kernel_rfl))
 t0:=Vr
 a0:=Wx
 z0:=Wf
 v0:=VB
 t3:=UJ
 a3:=Vu
 z3:=Vi
 v3:=UU
 t4:=UN
 a4:=Vv
 z4:=Vj
 v4:=UW
 t9:=T0
 a9:=Vo
 z9:=Vd
 v9:=UP
 t21:=Wu
 a21:=Xv
 z21:=Xf
 v21:=WG
 t31:=UC
 a31:=isAgg30
 z31:=sizeOf30
 v31:=aai
 t40:=underlying330
 a40:=isAgg330
 z40:=sizeOf330
 v40:=zeroValue330
 t152:=underlying354
 a152:=isAgg354
 z152:=sizeOf354
 v152:=zeroValue354
 t154:=underlying356
 a154:=isAgg356
 z154:=sizeOf356
 v154:=zeroValue356}
theorem Tryz.Rh:Go.Proofs.Lays.n137 prog Tryz.iz:={
 mixed:=by kernel_rfl
 f137:=Yx.trans (TU some (by kernel_rfl))
 f217:=WR.trans (TU some (by kernel_rfl))
 f266:=WS.trans (TU some (by kernel_rfl))
 t3:=UJ
 a3:=Vu
 z3:=Vi
 v3:=UU
 t5:=U7
 a5:=WL
 z5:=Wt
 v5:=VS
 t9:=T0
 a9:=Vo
 z9:=Vd
 v9:=UP}
theorem Tryz.Hw:Go.Proofs.Lays.n119 prog Tryz.iz:={
 mixed:=by kernel_rfl
 f119:=Yw.trans (TU some (by kernel_rfl))
 t4:=UN
 a4:=Vv
 z4:=Vj
 v4:=UW
 t21:=Wu
 a21:=Xv
 z21:=Xf
 v21:=WG}
theorem Tryz.tE:Builder.Extra prog Tryz.iz:={
 sizeBuilder:=by kernel_rfl
 liesBuilder:=by kernel_rfl
 t5:=U7
 a5:=WL
 z5:=Wt
 v5:=VS
 infoByte:=by kernel_rfl
 cellsByte:=by kernel_rfl
 sizeByte:=by kernel_rfl
 neB5:=by decide}
end Go.Proofs
namespace Go.Proofs.YtjelacjggijmfaaGreatDoor
open Pl Mk Cp Proofs.Tryz
open RowKit
structure Bd (B b:Nat)(aC:List UInt8)(w:ax):Prop where
 tT:Lib.IsBuilderF 319 5 B b (Lib.byteCells aC) w
 nil:aC=[]->∃p,w.heap[b]?=some (.cells #[p,.slice none 0 0] 319 (0,0))
theorem Bd.lZ (w:ax):Bd w.heap.size w.heap.size [] (w.alloc (.cells #[.pointer none,.slice none 0 0] 319)):=⟨Lib.IsBuilderF.of (Lib.fresh_isBuilder _ _ w),λ_=>⟨_,aG.bA w _ [.pointer none,.slice none 0 0]⟩⟩
variable {p:List UInt8}
theorem Bd.lt {B b:Nat}{w:ax}(h:Bd B b p w):b<w.heap.size:=by rcases h.tT with h|h<;>exact h.lt
variable {j:ax}
theorem Bd.kept {B b:Nat}{w:ax}(h:Bd B b p w)(i:∀(k:Nat) (c:Array ay) (t:TypeId) (f:Nat×Nat),w.heap[k]?=some (Obj.cells c t f)->j.heap[k]?=some (Obj.cells c t f)):Bd B b p j :=by
 have s:∀d,Lib.BuilderAtF 319 5 B b d (Lib.byteCells p) w->Lib.BuilderAtF 319 5 B b d (Lib.byteCells p) j :=by
  rintro d ⟨A,v,u,⟨z,n⟩,x⟩;refine⟨A,v,i _ _ _ _ u,⟨z,?_⟩,x⟩;rcases n with n|⟨g,cap,cur,fz,hv,hBg,hg,rest⟩
  ·exact .inl n
  ·exact .inr ⟨g,cap,cur,fz,hv,hBg,i _ _ _ _ hg,rest⟩
 refine⟨?_,λe=> ?_⟩
 ·rcases h.tT with h|h
  ·exact .inl (s _ h)
  ·exact .inr (s _ h)
 ·obtain⟨d,y⟩:=h.nil e;exact⟨d,i _ _ _ _ y⟩
theorem Bd.aE {B b:Nat}{w:ax}(h:Bd B b p w)(e:Below w.heap.size w j):Bd B b p j :=Bd.kept h (λk _ _ _ d=>(e.block k (TN.1 d).1).trans d)
theorem BJ:(Tryz.prog.info? 158).map (·.size)=some 2:=by kernel_rfl
theorem NF:(Tryz.prog.info? 5).map (λd=>(d.zero,d.size,d.bytes))=some (some (.int .u8 0),1,1):=by kernel_rfl
theorem Ld:Tryz.prog.cellsOf 5=1:=by kernel_rfl
theorem JV:liesAt prog Tryz.prog.depth 319 (2/Tryz.prog.cellsOf 319) 0 158 1=true:=by kernel_rfl
theorem JG (b:Nat)(w:ax)(j:w.cell? ⟨b,0,none⟩=some (.pointer none))(d:w.shape? b=some (319,2))(i:w.frozen? ⟨b,0,none⟩=false):
 Calls prog 122 #[.pointer (some ⟨b,0,none⟩)] w λe g=>e= .returned (.tuple #[])/\g =w.setCell ⟨b,0,none⟩ (.pointer (some ⟨b,0,none⟩)):=by
 obtain⟨n,f,h⟩:=aaw.1 BJ;go_enter Yp,ntmps122;go_wp2
 rw[Lib.run_to_unsafe w ⟨b,0,none⟩ Wi WW f (by rw[h];decide) d (Nat.zero_lt_succ 1)];simp only[Result.andThen];rw[aaJ];go_wp2
 rw[run_callFunc_extern Zp (by kernel_rfl) (by kernel_rfl) (by kernel_rfl) (e:=Extern.AbiNoEscape.same) (by kernel_rfl)];rw[Lib.run_noEscape];simp only[Result.andThen];rw[aaJ];go_wp2
 rw[Lib.run_from_unsafe w ⟨b,0,none⟩ WW Wi f d JV];simp only[Result.andThen];rw[aaJ];go_wp2
 go_end0
 exact⟨rfl,rfl⟩
theorem JO (b:Nat)(w:ax)(h:w.cell? ⟨b,0,none⟩=some (.pointer (some ⟨b,0,none⟩))):
 Calls prog 122 #[.pointer (some ⟨b,0,none⟩)] w λe f=>e= .returned (.tuple #[])/\f =w:=by
 obtain⟨i,d,g⟩:=aaw.1 BJ;go_enter Yp,ntmps122;go_wp2
 rw[Lib.run_neq_ptr_same w _ Wi d];go_wp2
 go_end0
 exact⟨rfl,rfl⟩
theorem QH (B b:Nat)(g:List UInt8)(w:ax)(h:Bd B b g w):
 Calls prog 122 #[.pointer (some ⟨b,0,none⟩)] w λe d=>e= .returned (.tuple #[])/\Lib.BuilderAtF 319 5 B b (.pointer (some ⟨b,0,none⟩)) (Lib.byteCells g) d /\(g=[]->∃f,d.heap[b]?=some (.cells #[f,.slice none 0 0] 319 (0,0)))/\Below B w d /\Lib.OthersKept 5 (some b) w d :=by
 have i:=h.nil;rcases h.tT with h|h
 ·refine(JG b w h.cell0 h.shape h.frozen0).mono ?_;rintro e d ⟨rfl,rfl⟩;refine⟨rfl,h.used _,λe=> ?_,(TF B w).setCell (p:=⟨b,0,none⟩) h.1 _,(Zh _ _ w).setCell ⟨b,0,none⟩ rfl _⟩;obtain⟨f,j⟩:=i e;exact⟨.pointer (some ⟨b,0,none⟩),by simp[World.setCell,Array.getElem?_modify,j]⟩
 ·refine(JO b w h.cell0).mono ?_;rintro e d ⟨rfl,rfl⟩;exact⟨rfl,h,i,TF B _,Zh _ _ _⟩
structure xw (B b:Nat)(aC:List UInt8)(w:ax)(p v:ay):Prop where
 Tu:p= .pointer none\/p= .pointer (some ⟨b,0,none⟩)
 nQ :Lib.BuilderAtF 319 5 B b p (Lib.byteCells aC) w
 le:B<=b
 heap:w.heap[b]?=some (.cells #[p,v] 319 (0,0))
 bI:w.ownsRowF B 5 1 v aC.length (Lib.byteCells aC)
 ne:v.ownBlock≠some b
 nil:aC=[]->v= .slice none 0 0
theorem Bd.IN {B b:Nat}{w:ax}(h:Bd B b p w):∃d v,xw B b p w d v:=by
 have x:=Va p;have key:∀d,(d= .pointer none\/d= .pointer (some ⟨b,0,none⟩))->Lib.BuilderAtF 319 5 B b d (Lib.byteCells p) w->∃d v,xw B b p w d v:=λd u f=>by have n :=f;obtain⟨y,v,i,j,s⟩:=n;rw[x] at j;refine⟨d,v,u,f,y,i,j,s,λe=> ?_⟩;obtain⟨q,g⟩:=h.nil e;rw[i] at g;simp at g;exact g.2
 rcases h.tT with f|f
 ·exact key _ (.inl rfl) f
 ·exact key _ (.inr rfl) f
theorem xw.slice {B b:Nat}{w:ax}{d v:ay}(h:xw B b p w d v):∃a cap,v= .slice a p.length cap:=by
 rcases h.bI.2 with⟨rfl,e⟩|⟨f,cap,i,g,rfl,_⟩
 ·exact⟨none,0,by rw[e]⟩
 ·exact⟨_,_,rfl⟩
theorem Po (B b:Nat)(d:List UInt8)(s:az)(w:ax)(h:Bd B b d w)(ah:d.length+s.size<=140737488355328)(ai:B<=w.heap.size):
 Calls prog 75 #[.pointer (some ⟨b,0,none⟩),.string s] w λe A=>e= .returned (.tuple #[.int .i64 s.size,.nilIface])/\Bd B b (d++s.data.toList) A /\Below B w A /\Lib.OthersKept 5 (some b) w A :=by
 obtain⟨G,hi,U,O,ab⟩:=UF NF;have H:(Lib.byteCells d).length=d.length:=Va d;have af:=h.nil;go_enter aa0,ntmps75;go_wp2_with (go_at_call 122;refine(QH B b d _ h).mono ?_)
 rintro e n ⟨rfl,M,J,y,S⟩;obtain⟨F,v,f,x,L⟩:=M;have R:d=[]->v= .slice none 0 0:=λe=>by obtain⟨q,j⟩:=J e;rw[f] at j;simp at j;exact j.2
 have c0:n.cell? ⟨b,0,none⟩=some (.pointer (some ⟨b,0,none⟩)):=by rw[WV f];rfl
 have c1:n.cell? ⟨b,1,none⟩=some v:=by rw[WV f];rfl
 go_wp2_with (at_builtin;refine Lib.wpList_append_own_stringF _ rfl _ _ 126 9 rfl B 5 G Ui T0 hi U O ab _ _ _ rfl x s rfl ?c3 ?c4 ?c5 ?_)
 case c3=>unfold maxLen;omega
 case c4=>omega
 case c5=>have:=y.size;omega
 intro K i D u I;have aa:b<n.heap.size:=(TN.1 f).1;have g:i.heap[b]?=some (.cells #[.pointer (some ⟨b,0,none⟩),v] 319 (0,0)):=by rw[u.block b aa (λe=>L e.symm)];exact f
 have d0:i.cell? ⟨b,0,none⟩=some (.pointer (some ⟨b,0,none⟩)):=by rw[WV g];rfl
 have d1:i.cell? ⟨b,1,none⟩=some v:=by rw[WV g];rfl
 have f1:i.frozen? ⟨b,1,none⟩=false:=Lib.frozen_of_heap g 1;obtain⟨E,C,cap,rfl⟩:∃E C cap,K = .slice E C cap:=by
  rcases D.2 with⟨z,_⟩|⟨ae,cap,ad,fz,z,_⟩
  ·exact⟨_,_,_,z⟩
  ·exact⟨_,_,_,z⟩
 have ac:Lib.byteCells (d++s.data.toList)=Lib.byteCells d++Lib.strCells s:=V3 _ _;go_wp2
 go_ret2
 refine⟨rfl,⟨.inr ?_,λe=> ?_⟩,?_,(S.grown u (Lib.ownsRowF_kind x)).setCell ⟨b,1,none⟩ rfl _⟩
 ·rw[ac];exact Lib.BuilderAtF.put (T:=319) (e:=5) F g (bs' :=Lib.byteCells d++Lib.strCells s) (by simpa [Lib.strCells_length,H] using D) (by decide)
 ·have Y:d=[]:=(aax.1 e).1;have e2:s.data.toList=[]:=(aax.1 e).2;have hs:s=ByteArray.empty:=by cases s;simp_all;rfl
  have:=I.2 ⟨R Y,hs⟩;rw[this];exact⟨.pointer (some ⟨b,0,none⟩),by simp[World.setCell,Array.getElem?_modify,g]⟩
 ·exact(y.grown u (by have:=y.size;omega) (λk V=>(x.lt k V).1)).setCell (p:=⟨b,1,none⟩) F _
theorem Iw (B b:Nat)(d:List UInt8)(w:ax)(h:Bd B b d w):Calls prog 243 #[.pointer (some ⟨b,0,none⟩)] w λe g=>e= .returned (.int .i64 d.length)/\g =w:=by
 obtain⟨i,v,f⟩:=h.IN;obtain⟨a,cap,rfl⟩:=f.slice;have j:w.cell? ⟨b,1,none⟩=some (.slice a d.length cap):=by rw[WV f.heap];rfl
 clear f h;go_enter func243,ntmps243;go_wp2
 go_ret;exact⟨rfl,rfl⟩
theorem Ma (B b:Nat)(w:ax)(h:Bd B b [] w):Calls prog 79 #[.pointer (some ⟨b,0,none⟩)] w λe f=>e= .returned (.string ⟨#[]⟩)/\Below B w f :=by
 obtain⟨g,d⟩:=h.nil rfl;have n:w.drew.cell? ⟨b,1,none⟩=some (.slice none 0 0):=by have:w.drew.heap[b]?=some (.cells #[g,.slice none 0 0] 319 (0,0)):=d;rw[WV this];rfl
 have j:(Builtin.unsafeSliceData_ #[126] 241 #[.slice none 0 0]).run prog w.drew= .ok (.pointer none) w.drew:=rfl;have i:(Builtin.unsafeString_ #[241,3] 9 #[.pointer none,.int .i64 0]).run prog w.drew= .ok (.string ⟨#[]⟩) w.drew:=Lib.run_unsafeString_none w.drew _ _ _ none;go_enter ZP,ntmps79;go_wp2
 go_region
 all_goals(go_wp2;go_ret;exact⟨rfl,Below.drew (TF B w)⟩)
theorem KG (B b:Nat)(l:List UInt8)(w:ax)(h:Bd B b l w)(n:l≠[]):Calls prog 79 #[.pointer (some ⟨b,0,none⟩)] w λe y=>e= .returned (.string ⟨l.toArray⟩)/\Below B w y :=by
 obtain⟨j,v,i⟩:=h.IN;have p:l.length≠0:=by simpa using n
 obtain⟨d,cap,f,g,rfl,D,s,J,K,A,L,z⟩:∃d cap f g,v= .slice (some ⟨d,0,none⟩) l.length cap/\B<=d/\w.heap[d]?=some (.cells f 5 g)/\g.2<=l.length*1/\l.length<=cap/\cap<=maxLen/\f.size=cap*1/\f.toList.take (l.length*1)=Lib.byteCells l:=by
  rcases i.bI.2 with⟨_,C⟩|⟨d,cap,f,g,F,r⟩
  ·exact absurd C p
  ·exact⟨d,cap,f,g,F,r⟩
 have M:w.drew.cell? ⟨b,1,none⟩=some (.slice (some ⟨d,0,none⟩) l.length cap):=by have:w.drew.heap[b]?=some (.cells #[j,.slice (some ⟨d,0,none⟩) l.length cap] 319 (0,0)):=i.heap;rw[WV this];rfl
 have I:(Builtin.unsafeSliceData_ #[126] 241 #[.slice (some ⟨d,0,none⟩) l.length cap]).run prog w.drew= .ok (.pointer (some ⟨d,0,none⟩)) w.drew:=Lib.run_unsafeSliceData_row _ _ _ _ _ _ (by omega);have H:(Builtin.unsafeString_ #[241,3] 9 #[.pointer (some ⟨d,0,none⟩),.int .i64 l.length]).run prog w.drew= .ok (.string ⟨l.toArray⟩) (w.drew.freeze ⟨d,0,none⟩ l.length):=by refine Lib.run_unsafeString_row w.drew 241 3 9 5 X8 Ld d f.size (by have E :w.drew.heap[d]?=some (.cells f 5 g):=s;simp[World.shape?,E]) l n (by omega) (by unfold maxLen at A;omega) ?_;intro G x u;exact i.bI.cells (g:=d) rfl G (.int .u8 x.toNat) (by simp[Lib.byteCells,u])
 clear i h z;go_enter ZP,ntmps79;go_wp2
 go_region
 all_goals(go_wp2;go_ret;exact⟨rfl,Lib.below_freeze (Below.drew (TF B w)) (p:=⟨d,0,none⟩) D _⟩)
theorem Ri (B b:Nat)(l:List UInt8)(w:ax)(h:Bd B b l w):Calls prog 79 #[.pointer (some ⟨b,0,none⟩)] w λe f=>e= .returned (.string ⟨l.toArray⟩)/\Below B w f :=by
 by_cases d:l=[]
 ·subst d;exact Ma B b w h
 ·exact KG B b l w h d
end Go.Proofs.YtjelacjggijmfaaGreatDoor
namespace Go.Mk
open Pl Mk Cp Proofs.Tryz
abbrev Bs:=List UInt8
def dF (c:UInt8):Bool:=c==32||c==9
def fE (l:Bs):Bs:=l.dropWhile dF
def qA (l:Bs):Bs:=(l.reverse.dropWhile dF).reverse
def cut (l:Bs):Bs:=fE (qA l)
def gg (l:Bs):Bs:=(l.reverse.dropWhile (·==92)).reverse
def dR (l:Bs):Bool:=l.getLast?==some 92
def iF:Bs->List Bs
 |[]=>[[]]
 |c::r=>if c==10 then []::iF r else(c::(iF r).headD [])::(iF r).tail
def fw:Bs->Nat->Bs->List Bs->Bs×Nat×List Bs
 |f,e,d,[]=>(f++gg d,e,[])|f,e,d,q::g=>if dR d then fw (f++d.dropLast++[32]) (e+1) (fE q) g else(f++d,e,q::g)
def kP:Nat->Nat->List Bs->List (Nat×Bs)
 |0,_,_=>[]
 |_+1,_,[]=>[]
 |f+1,n,e::d=>(n,(fw [] 1 e d).1)::kP f (n+(fw [] 1 e d).2.1) (fw [] 1 e d).2.2
def di (t:Bs):List (Nat×Bs):=kP (iF t).length 1 (iF t)
structure Ln where
 d':Nat
 cC:Nat
 left:Bs
 right:Bs
def Ln.zero:Ln:=⟨0,0,[],[]⟩
def ig:Bs:=[105,110,99,108,117,100,101]
def bj (c:UInt8)(l:Bs):Bs:=l.takeWhile (λx=> !(x==c))
def jZ (c:UInt8):Bool:=(65<=c&&c<=90)||(97<=c&&c<=122)||(48<=c&&c<=57)||c==95
def eo (l:Bs):Bool:= !l.isEmpty&&decide (l.length<=16)&&l.all jZ
def cU (c:UInt8):Bool:= !(c==61||c==58)
def gX:Bs->Nat×Bs
 |58::61::b=>(3,b)|61::b=>(4,b)|l=>(5,l.tail)
def fq (d:Nat)(left:Bs):Bool:=if left==ig then false else if d==5 then !left.isEmpty else eo left
def nk (w:Bs):Ln:=if(fE w).isEmpty then Ln.zero else⟨0,1,[],fE w⟩
def iJ (t:Bs):Bool:=ig.isPrefixOf t&&(match t.drop 7 with|[]=>true|c::_=>dF c)
def kF (b:Bs):Ln×Nat:=if b.isEmpty then(Ln.zero,1) else(⟨0,2,[],b⟩,0)
def fS (t:Bs):Ln×Nat:=
 if(t.dropWhile cU).isEmpty then(Ln.zero,1)
 else if fq (gX (t.dropWhile cU)).1 (cut (t.takeWhile cU)) then(⟨0,(gX (t.dropWhile cU)).1,cut (t.takeWhile cU),cut (gX (t.dropWhile cU)).2⟩,0)
 else(Ln.zero,1)
def br (w:Bs):Ln×Nat:=
 if [9].isPrefixOf w then(nk w,0)
 else if(cut (bj 35 w)).isEmpty then(Ln.zero,0)
 else if iJ (cut (bj 35 w)) then kF (cut ((cut (bj 35 w)).drop 7))
 else fS (cut (bj 35 w))
def ed:List (Nat×Bs)->List (Ln×Nat)
 |[]=>[]
 |(n,w)::r=>if(br w).2==0&&(br w).1.cC==0 then ed r
  else({(br w).1 with d':=n},(br w).2)::(if (br w).2==0 then ed r else [])
def eB:Bs->Bs->List Bs
 |d,[]=>if d.isEmpty then [] else [d]
 |d,c::r=>if dF c then(if d.isEmpty then eB [] r else d::eB [] r) else eB (d++[c]) r
def bH (l:Bs):List Bs:=eB [] l
def sB (l:Bs):Bs:=[32].intercalate (bH l)
def As (left d right:Bs):Bs:=if right.isEmpty then left++[32]++d else left++[32]++d++[32]++right
def written (l:Ln):Bs:=
 if l.cC==1 then [9]++l.right
 else if l.cC==2 then ig++[32]++sB l.right
 else if l.cC==3 then As l.left [58,61] l.right
 else if l.cC==4 then As l.left [61] l.right
 else As (sB l.left) [58] (sB l.right)
def Hp (l:Bs):Bs:=if dR l then l++[32] else l
def kU (d:UInt8->Bool)(l:Bs):Bs:=(l.reverse.dropWhile d).reverse
theorem wX (l:Bs):qA l=kU dF l:=rfl
theorem Nj (d:UInt8->Bool):kU d []=[]:=rfl
theorem yE (d:UInt8->Bool)(l:Bs)(c:UInt8):kU d (l++[c])=if d c then kU d l else l++[c]:=by
 unfold kU;rw[Zi];by_cases h:d c
 ·simp[h]
 ·simp[h]
theorem vP (d:UInt8->Bool)(c:UInt8)(l:Bs):kU d (c::l)=if(kU d l).isEmpty&&d c then [] else c::kU d l:=by
 unfold kU;rw[List.reverse_cons,aaR];by_cases h:(l.reverse.dropWhile d).isEmpty
 ·have f:(l.reverse.dropWhile d)=[]:=by simpa using h
  rw[f];by_cases e:d c
  ·simp[e]
  ·simp[e]
 ·simp[h]
theorem zC (d:UInt8->Bool)(l:Bs):(kU d l).length<=l.length:=by
 induction l with
 |nil=>simp[Nj]
 |cons c r e=>rw[vP];split<;>simp<;>omega
theorem uH (l:Bs):(fE l).length<=l.length:=by unfold fE;exact(aaS _).length_le
theorem q_ (l:Bs):(cut l).length<=l.length:=TT (uH _) (zC _ _)
theorem qR (c:UInt8)(l:Bs):fE (c::l)=if dF c then fE l else c::l:=by unfold fE;rw[Vh]
theorem FT (l:Bs):qA (fE l)=cut l:=by
 unfold cut;induction l with
 |nil=>rfl
 |cons c r e=>
  rw[qR];simp only[wX] at e⊢;by_cases h:dF c
  ·rw[TP h,e,vP];by_cases d:(kU dF r).isEmpty
   ·have f:kU dF r=[]:=by simpa using d
    simp[f,h]
   ·simp only[WH] at d;rw[d];simp only[We,Uj,Vk];rw[qR,TP h]
  ·rw[TJ h,vP];simp only[WH] at h;simp[h,qR]
theorem D8 (l:Bs):(gX l).2.length<=l.length:=by unfold gX;split<;>simp<;>omega
theorem BD (d:UInt8->Bool)(l:Bs):(l.dropWhile d).length<=l.length:=(aaS _).length_le
def bQ (c:UInt8)(l:Bs):Bs:=(l.dropWhile (λx=> !(x==c))).drop 1
theorem ud (c:UInt8)(l:Bs):(l.contains c=true->Lib.index l [c]=(bj c l).length)/\(l.contains c=false->Lib.index l [c]= -1):=by
 induction l with
 |nil=>simp[Lib.index]
 |cons b r g=>
  by_cases h:b=c
  ·subst h;simp[Lib.index,bj]
  ·have f:(c==b)=false:=by simpa using λe=>h e.symm
   have p:(b==c)=false:=by simpa using h
   have j:List.isPrefixOf [c] (b::r)=false:=by simp[List.isPrefixOf,f]
   have n:(b::r).contains c=r.contains c:=by rw[UL,f,VV]
   rw[n];unfold Lib.index;rw[j];simp only[Uj,Vk];constructor
   ·intro d;have:=g.1 d;rw[this];have i:(((bj c r).length:Int)== -1)=false:=by rw[TQ];omega
    rw[i];simp[bj,p]
   ·intro d;rw[g.2 d];rfl
theorem GN (c b:UInt8)(r:Bs)(h:(b::r).contains c=false):(b==c)=false/\r.contains c=false:=by rw[UL,UD] at h;refine⟨?_,h.2⟩;have:=h.1;rw[TQ] at this⊢;exact λe=>this e.symm
theorem LO (c:UInt8)(l:Bs)(h:l.contains c=false):bj c l=l:=by
 induction l with
 |nil=>rfl|cons b r d=>obtain⟨f,e⟩:=GN c b r h;have:=d e;unfold bj at this⊢;rw[U9,f,this];rfl
theorem Lr (c:UInt8)(l:Bs)(h:l.contains c=false):bQ c l=[]:=by
 induction l with
 |nil=>rfl|cons b r d=>obtain⟨f,e⟩:=GN c b r h;have:=d e;unfold bQ at this⊢;rw[Vh,f];exact this
def has (c:UInt8)(l:Bs):Bool:=l.contains c
theorem Qm (c:UInt8)(l:Bs):Lib.cut l [c]=(bj c l,bQ c l,has c l):=by
 unfold Lib.cut has;cases h:l.contains c with
 |true=>
  rw[(ud c l).1 h,TP (by omega)];simp only[ZO,TK,T1];have d:bj c l++l.dropWhile (λx=> !(x==c))=l:=Wy;have f:l.take (bj c l).length=bj c l:=by
   conv=>lhs;arg 2;rw[<-d]
   exact YF
  have e:l.drop ((bj c l).length+(0+1))=bQ c l:=by
   rw[<-Ws]
   conv=>lhs;arg 2;arg 2;rw[<-d]
   rw[YG];rfl
  rw[f,e]
 |false=>rw[(ud c l).2 h,TJ (by omega),LO c l h,Lr c l h]
theorem BS (c:UInt8):[32,9].contains c=dF c:=by simp only[UL,YH,XD,dF]
theorem MI (l:Bs):Lib.trimS l [32,9]=cut l:=by unfold Lib.trimS Lib.trimLeftS Lib.trimRightS cut fE qA;simp only[BS]
theorem Jk (l:Bs):Lib.trimLeftS l [32,9]=fE l:=by unfold Lib.trimLeftS fE;simp only[BS]
theorem I9 (l:Bs):Lib.trimRightS l [92]=gg l:=by
 unfold Lib.trimRightS gg;have:∀c:UInt8,[92].contains c=(c==92):=λc=>by simp only[UL,YH,XD]
 simp only[this]
theorem Bn (l:Bs):Lib.hasSuffix l [92]=dR l:=by
 unfold Lib.hasSuffix dR;rw[U3];simp only[XP,UR];constructor
 ·rintro⟨t,rfl⟩;simp
 ·intro h;obtain⟨d,rfl⟩:=Wz.1 h;exact⟨d,rfl⟩
theorem Jf (l:Bs)(h:dR l=true):Lib.trimSuffix l [92]=l.dropLast:=by unfold Lib.trimSuffix;rw[Bn,TP h,aaT];rfl
end Go.Mk
namespace Go.Cp
open Pl Mk Cp Proofs.Tryz
abbrev Bs:=List UInt8
structure Nv where
 aT:Bs
 mQ:Bool
def pL:Nv:=⟨[],false⟩
structure Er where
 bE:Bs
 er:Nat
 bq:Nat
def da (d part:Bs):Bs:=if d.length<=2000 then d++part else d
def gC (e:Bs)(d:Nat):Er:=if 2000<e.length then⟨[],5,d⟩ else⟨e,0,d⟩
def dU (N:Bs->Nv)(sg:UInt8->Option Bs):Nat->List Bs->Nat->Bs->Bs->Option Er
 |0,_,_,_,_=>none
 |f+1,marked,d,g,e=>
  if Mk.has 36 e=false then some (gC (da g (Mk.bj 36 e)) d) else
  match bQ 36 e with
  |[]=>some ⟨[],1,d⟩
  |c::rest=>
   if c=36 then dU N sg f marked d (da (da g (Mk.bj 36 e)) [36]) rest
   else if c=40 then
    if Mk.has 41 rest=false\/eo (Mk.bj 41 rest)=false then some ⟨[],1,d⟩
    else if 300<d+1 then some ⟨[],5,d+1⟩
    else if(N (Mk.bj 41 rest)).mQ=true then
     if Mk.bj 41 rest∈marked then some ⟨[],4,d+1⟩
     else match dU N sg f (marked++[Mk.bj 41 rest]) (d+1) [] (N (Mk.bj 41 rest)).aT with
      |none=>none
      |some r=>if r.er=0 then dU N sg f marked r.bq (da (da g (Mk.bj 36 e)) r.bE) (bQ 41 rest) else some ⟨[],r.er,r.bq⟩
    else dU N sg f marked (d+1) (da (da g (Mk.bj 36 e)) (N (Mk.bj 41 rest)).aT) (bQ 41 rest)
   else match sg c with
    |none=>some ⟨[],1,d⟩
    |some h=>dU N sg f marked d (da (da g (Mk.bj 36 e)) h) rest
theorem oX {N:Bs->Nv}{sg:UInt8->Option Bs}:∀(f d:Nat) (m:List Bs) (k:Nat) (a t:Bs) (r:Er),f<=d->dU N sg f m k a t=some r->dU N sg d m k a t=some r
 |0,_,_,_,_,_,_,_,h=>by cases h
 |f+1,0,_,_,_,_,_,z,_=>by omega
 |f+1,d+1,m,k,a,t,r,z,h=>by
  rw[dU] at h⊢;split
  ·rename_i j;rw[TP j] at h;exact h
  ·rename_i j;rw[TJ j] at h;cases x:bQ 36 t with
   |nil=>rw[x] at h;exact h
   |cons c rest=>
    rw[x] at h;simp only at h⊢;split
    ·rename_i i;rw[TP i] at h;exact oX f d _ _ _ _ _ (by omega) h
    ·rename_i i;rw[TJ i] at h;split
     ·rename_i v;rw[TP v] at h;split
      ·rename_i p;rw[TP p] at h;exact h
      ·rename_i p;rw[TJ p] at h;split
       ·rename_i n;rw[TP n] at h;exact h
       ·rename_i n;rw[TJ n] at h;split
        ·rename_i s;rw[TP s] at h;split
         ·rename_i g;rw[TP g] at h;exact h
         ·rename_i g;rw[TJ g] at h;cases e:dU N sg f (m++[Mk.bj 41 rest]) (k+1) [] (N (Mk.bj 41 rest)).aT with
          |none=>rw[e] at h;cases h
          |some B=>
           rw[e] at h;rw[oX f d _ _ _ _ _ (by omega) e];simp only at h⊢;split
           ·rename_i u;rw[TP u] at h;exact oX f d _ _ _ _ _ (by omega) h
           ·rename_i u;rw[TJ u] at h;exact h
        ·rename_i s;rw[TJ s] at h;exact oX f d _ _ _ _ _ (by omega) h
     ·rename_i v;rw[TJ v] at h;cases y:sg c with
      |none=>rw[y] at h;exact h
      |some A=>rw[y] at h;exact oX f d _ _ _ _ _ (by omega) h
def bM (N:Bs->Nv)(sg:UInt8->Option Bs)(m:List Bs)(k:Nat)(a t:Bs)(r:Er):Prop:=∃f,dU N sg f m k a t=some r
theorem bM.kC {N:Bs->Nv}{sg:UInt8->Option Bs}{m:List Bs}{k:Nat}{a t:Bs}{r s:Er}(h:bM N sg m k a t r)(n:bM N sg m k a t s):r=s:=by obtain⟨e,j⟩:=h;obtain⟨d,i⟩:=n;have g:=oX e (e+d) m k a t r (by omega) j;have f:=oX d (e+d) m k a t s (by omega) i;rw[g] at f;cases f;rfl
theorem bM.nH {N:Bs->Nv}{sg:UInt8->Option Bs}{m:List Bs}{k:Nat}{a t:Bs}(h:Mk.has 36 t=false):bM N sg m k a t (gC (da a (Mk.bj 36 t)) k):=⟨1,by rw[dU,TP h]⟩
end Go.Cp
namespace Go.Proofs.YtjelacjggijmfaaGreatDoor
open Pl Mk Cp Proofs.Tryz
open RowKit
theorem Sh (B b:Nat)(d:List UInt8)(s:az)(w:ax)(h:Bd B b d w)(E:s.size<=70368744177664)(C:B<=w.heap.size):
 Calls prog 196 #[.pointer (some ⟨b,0,none⟩),.string s] w λe f=>e= .returned (.tuple #[])/\Bd B b (da d s.data.toList) f /\Below B w f /\Lib.OthersKept 5 (some b) w f :=by
 have j:=aB (Iw B b d w h);by_cases i:d.length<=2000
 ·have p:(d.length:Int)<=2000:=by omega
  have z:=aB (Po B b d s w h (by omega) C);have g:da d s.data.toList=d++s.data.toList:=by unfold da;rw[TP i]
  rw[g];clear h;go_enter func196,ntmps196;go_wp2_with (first|(go_at_call 243;refine j.u.mono ?_;rintro e x ⟨rfl,rfl⟩)|(go_at_call 75;refine z.u.mono ?_;rintro e D ⟨rfl,v,A,y⟩)|fail)
  go_end0
  exact⟨rfl,v,A,y⟩
 ·have p:¬(d.length:Int)<=2000:=by omega
  have g:da d s.data.toList=d:=by unfold da;rw[TJ i]
  rw[g];have n:=aB h;clear h;go_enter func196,ntmps196;go_wp2_with (first|(go_at_call 243;refine j.u.mono ?_;rintro e x ⟨rfl,rfl⟩)|fail)
  go_end0
  exact⟨rfl,n.u,TF _ _,Zh _ _ _⟩
theorem Q5 (B b:Nat)(d:List UInt8)(k:Nat)(w:ax)(h:Bd B b d w):
 Calls prog 197 #[.pointer (some ⟨b,0,none⟩)] w λe p=>e= .returned (.tuple #[.string ⟨(gC d k).bE.toArray⟩,.int .i64 (gC d k).er])/\Below B w p :=by
 have i:=aB (Iw B b d w h);by_cases g:2000<d.length
 ·have j:(2000:Int)<(d.length:Int):=by omega
  have f:gC d k=⟨[],5,k⟩:=by unfold gC;rw[TP g]
  rw[f];clear h;go_enter func197,ntmps197;go_wp2_with (first|(go_at_call 243;refine i.u.mono ?_;rintro e s ⟨rfl,rfl⟩)|fail)
  go_ret2
  exact⟨rfl,TF _ _⟩
 ·have j:¬(2000:Int)<(d.length:Int):=by omega
  have v:=aB (Ri B b d w h);have f:gC d k=⟨d,0,k⟩:=by unfold gC;rw[TJ g]
  rw[f];clear h;go_enter func197,ntmps197;go_wp2_with (first|(go_at_call 243;refine i.u.mono ?_;rintro e s ⟨rfl,rfl⟩)|(go_at_call 79;refine v.u.mono ?_;rintro e x ⟨rfl,n⟩)|fail)
  go_ret2
  exact⟨rfl,n⟩
variable {j:ax}
theorem Ig {W:ax}(d:Below W.heap.size W j):(∀b o,b<W.heap.size->j.cell? ⟨b,o,none⟩=W.cell? ⟨b,o,none⟩)/\(∀b o,b<W.heap.size->j.frozen? ⟨b,o,none⟩=W.frozen? ⟨b,o,none⟩):=⟨λb o h=>d.cell (p:=⟨b,o,none⟩) h,λb o h=>d.frozen (p:=⟨b,o,none⟩) h⟩
def ka (w:ax)(b:Nat)(t:TypeId)(d g e f:ay):Prop:=w.heap[b]?=some (.cells #[d,g,e,f] t (0,0))
theorem ka.bA (w:ax)(t:TypeId)(d g e f:ay):ka (w.alloc (.cells #[d,g,e,f] t)) w.heap.size t d g e f:=by show(w.heap.push _)[w.heap.size]?=_;simp
variable {i s u e:ay}
theorem ka.lt {w:ax}{b:Nat}{t:TypeId}(h:ka w b t i s u e):b<w.heap.size:=(TN.1 h).1
theorem ka.aE {w:ax}{b:Nat}{t:TypeId}(h:ka w b t i s u e)(d:Below w.heap.size w j):ka j b t i s u e:=(d.block b h.lt).trans h
theorem ka.alloc {w:ax}{b:Nat}{t:TypeId}(h:ka w b t i s u e)(o:Obj):ka (w.alloc o) b t i s u e:=(VU w o b h.lt).trans h
theorem ka.cells {w:ax}{b:Nat}{t:TypeId}(h:ka w b t i s u e):
 (w.cell? ⟨b,0,none⟩=some i/\w.cell? ⟨b,1,none⟩=some s/\w.cell? ⟨b,2,none⟩=some u/\w.cell? ⟨b,3,none⟩=some e)/\
 (w.frozen? ⟨b,0,none⟩=false/\w.frozen? ⟨b,1,none⟩=false/\w.frozen? ⟨b,2,none⟩=false/\w.frozen? ⟨b,3,none⟩=false):=by unfold ka at h;simp[World.cell?,World.frozen?,h]
def qn (r:Int):Bool:=r==32||r==9
def o_ (r:Int):Bool:=(decide (65<=r)&&decide (r<=90))||(decide (97<=r)&&decide (r<=122))||(decide (48<=r)&&decide (r<=57))||r==95
theorem yl (r:Int)(w:ax):
 Calls prog 212 #[.int .i32 r] w λe d=>e= .returned (.bool (qn r))/\w=d :=by
 go_enter func212,ntmps212;go_wp2
 all_goals go_ret
 all_goals(refine ⟨?_,rfl⟩;simp[qn, *])
theorem BN (r:Int)(w:ax):
 Calls prog 275 #[.int .i32 r] w λe d=>e= .returned (.bool (o_ r))/\w=d :=by
 go_enter func275,ntmps275;go_wp2
 all_goals go_ret
 all_goals(refine ⟨ko ?_,rfl⟩;rw[U3];simp[o_];try omega)
theorem vF (c:UInt8):o_ c.toNat=jZ c:=by rw[U3];simp[o_,jZ,UInt8.le_iff_toNat_le,<-UInt8.toNat_inj];omega
theorem Bj (l:List UInt8)(d:Nat)(h:d<l.length)(e:jZ l[d]=false):l.all jZ=false:=by rw[ZR];exact⟨l[d],TV h,by simp[e]⟩
theorem Kh (l:List UInt8)(h:16<l.length):eo l=false:=by simp[eo];omega
theorem Pb (c:UInt8)(h:128<=c.toNat):jZ c=false:=by rw[<-vF];simp[o_];omega
theorem Mx (n:Nat)(h:128<=n):o_ n=false:=by simp[o_];omega
theorem EO (s:az)(d:Nat)(h:d<s.size):1<=(Utf8.decode s d).2:=by
 by_cases e:(s[d]'h).toNat<128
 ·rw[Zq s d h e];exact TD _
 ·exact(ZS s d h (by omega)).2
theorem qS (s:az)(k:Nat)(h:k<s.size):s.data.toList.take (k+1)=s.data.toList.take k++[s[k]]:=by rw[TW (by simpa using h)];rfl
theorem wO {s:az}(h:s.toList.isEmpty=true):s.data.toList=[]:=by rw[UQ] at h;simpa using h
theorem Ci {s:az}(h:s.toList.isEmpty=false):s.data.toList≠[]:=by rw[UQ] at h;simpa using h
theorem Dd (s:az)(e:s.data.toList≠[])(g:s.size<=16):eo s.data.toList=s.data.toList.all jZ:=by
 have f:=Uf s;have:s.data.toList.isEmpty=false:=by simpa using e
 have d:decide (s.data.toList.length<=16)=true:=by simp only[U6];omega
 unfold eo;rw[this,d];simp
theorem MX (s:az)(f:s.data.toList≠[])(g:s.size<=16)(d:Nat)(h:d<s.size)(e:jZ s[d]=false):eo s.data.toList=false:=by rw[Dd s f g];exact Bj _ d (by rw[<-Uf];exact h) e
theorem LR (s:az)(e:s.data.toList≠[])(f:s.size<=16)(d:Nat)(h:¬d<s.size)(g:(s.data.toList.take d).all jZ=true):eo s.data.toList=true:=by rw[Dd s e f];rwa [Uh (by rw[<-Uf];omega)] at g
theorem Dw (s:az)(w:ax):
 Calls prog 244 #[.string s] w λe H=>e= .returned (.bool (eo s.data.toList))/\Below w.heap.size w H :=by
 cases z:s.toList.isEmpty with
 |true=>
  have j:=aB (wO z);go_enter func244,ntmps244;go_wp2
  go_ret;exact⟨ko (by rw[j.u];rfl),TF _ _⟩
 |false=>
  have j:=aB (Ci z);by_cases G:16<s.size
  ·go_enter func244,ntmps244;go_wp2
   all_goals go_ret
   all_goals exact⟨ko (Kh _ (by rw[<-Uf];exact G)).symm,TF _ _⟩
  have y :s.size<=16:=by omega
  go_enter func244,ntmps244;go_wp2
  go_loopw [4] (λ_ wr=>∃d:Nat,wr.heap[w.heap.size]?=some (.stringIter s d)/\Below w.heap.size w wr/\(s.data.toList.take d).all jZ=true) (λ_ wr=>s.size-wr.iterPos w.heap.size)
  case atStart=>exact⟨0,by simpa using aaK w s 0,aj w _,by simp⟩
  case round=>
   obtain⟨d,hit,x,v⟩:=hrel;have C:=aB v;clear v;have L:w.heap.size<wr.heap.size:=(TN.1 hit).1;by_cases f:d<s.size
   ·have I:∀g,(Instr.next (.pointer (some ⟨w.heap.size,0,none⟩)) true g).run prog wr=_:=λg=>Zj wr w.heap.size s d g hit f;have K:=EO s d f;have J:=decode_le s d;have A:=aaL wr w.heap.size s d (d+(Utf8.decode s d).2) hit;have D:=aaj x (k:=w.heap.size) ak s (d+(Utf8.decode s d).2);by_cases n:o_ (Utf8.decode s d).1=true
    ·have B:(s[d]'f).toNat<128:=by
      rcases Yj (s[d]'f).toNat 128 with h|h
      ·exact h
      ·rw[Mx _ (ZS s d f h).1] at n;cases n
     have E:=aB (Zq s d f B);have p:=aB n;clear B;go_wp2_with (go_at_call 275;refine(BN _ _).mono ?_;rintro e F ⟨rfl,rfl⟩)
     refine⟨⟨d+(Utf8.decode s d).2,A,D,?_⟩,?_⟩
     ·have i:=p.u;rw[E.u] at i⊢;rw[qS s d f,Zf,C.u];simpa [vF] using i
     ·simp only[World.iterPos,A,hit];omega
    ·have p:=aB n;go_wp2_with (go_at_call 275;refine(BN _ _).mono ?_;rintro e F ⟨rfl,rfl⟩)
     go_ret;refine⟨ko (MX s j.u y d f ?_).symm,D⟩;rcases Yj (s[d]'f).toNat 128 with h|h
     ·have i:=p.u;rw[Zq s d f h] at i;simpa [vF] using i
     ·exact Pb _ h
   ·have I:∀g,(Instr.next (.pointer (some ⟨w.heap.size,0,none⟩)) true g).run prog wr=_:=λg=>Zk wr w.heap.size s d g hit f;go_wp2
    go_ret;exact⟨ko (LR s j.u y d f C.u).symm,x⟩
theorem lT (c:UInt8)(w:ax):
 Calls prog 118 #[.int .u8 c.toNat] w λe g=>e= .returned (.bool (Mk.dF c))/\w=g :=by
 have d:Mk.dF c=((c.toNat:Int)==32||(c.toNat:Int)==9):=by rw[U3];simp[Mk.dF,<-UInt8.toNat_inj];omega
 have f:=aB d;clear d;go_enter func118,ntmps118;go_wp2
 all_goals go_ret
 all_goals(refine ⟨ko ?_,rfl⟩;rw[f.u])
 all_goals simp[*]
def ox:ay->Nat
 | .string t=>t.size
 |_=>0
theorem vV (t:az)(h:0<t.size):t.data.toList=t[0]::(t.extract 1 t.size).data.toList:=by
 rw[VY];have d:0<t.data.toList.length:=by rw[<-Uf];exact h
 have:=T2 d;rw[V4] at this;exact this
theorem J8 (t:az)(h:0<t.size):(t.extract 1 t.size).size<t.size:=by simp;omega
theorem Bo (s:az)(w:ax):
 Calls prog 117 #[.string s] w λe j=>e= .returned (.string ⟨(fE s.data.toList).toArray⟩)/\w=j :=by
 go_enter func117,ntmps117;go_wp2
 go_loop [0] (λv=>∃t:az,v= .string t/\fE t.data.toList=fE s.data.toList) (λv=>ox v)
 case atStart=>exact⟨s,rfl,rfl⟩
 case round=>
  obtain⟨t,rfl,h⟩:=hrel;have d:=aB h;clear h;by_cases f:0<t.size
  ·have g:=aB (vV t f);cases i:Mk.dF (t[0]'f) with
   |true=>
    go_wp2_with (go_at_call 118;refine(lT _ _).mono ?_;rintro e n ⟨rfl,rfl⟩)
    refine⟨⟨_,rfl,?_⟩,J8 t f⟩;rw[<-d.u,g.u,qR,TP i]
   |false=>
    go_wp2_with (go_at_call 118;refine(lT _ _).mono ?_;rintro e n ⟨rfl,rfl⟩)
    go_ret;refine⟨pa (ie ?_),rfl⟩;rw[<-d.u,g.u,qR,i];rfl
  ·go_wp2
   go_ret;refine⟨pa (ie ?_),rfl⟩;rw[<-d.u];have:t.data.toList=[]:=by rw[WI,<-Uf];omega
   rw[this];rfl
theorem MO (t:az)(h:0<t.size):t.data.toList=(t.extract 0 (t.size-1)).data.toList++[t[t.size-1]]:=by rw[Wj];simp only[V4,Zo];have:=qS t (t.size-1) (by omega);rw[show t.size-1+1=t.size from by omega,Uh (by rw[<-Uf];omega)] at this;exact this
theorem BB (t:az)(h:0<t.size):(t.extract 0 (t.size-1)).size<t.size:=by simp;omega
theorem lr (s:az)(w:ax)(B:s.size<=4294967296):
 Calls prog 73 #[.string s] w λe z=>e= .returned (.string ⟨(Mk.cut s.data.toList).toArray⟩)/\w=z :=by
 have y:=uH s.data.toList;rw[<-Uf] at y;have x:=aB (FT s.data.toList);generalize n:fE s.data.toList=q at y;have f:=aB n;clear n;go_enter func73,ntmps73;go_wp2_with (go_at_call 117;refine(Bo _ _).mono ?_;rintro e p ⟨rfl,rfl⟩;rw[f.u])
 go_loop [0] (λv=>∃t:az,v= .string t/\t.size<=4294967296/\qA t.data.toList=qA q) (λv=>ox v)
 case atStart=>exact⟨⟨q.toArray⟩,rfl,by rw[eh];omega,by simp⟩
 case round=>
  obtain⟨t,rfl,C,i⟩:=hrel;have g:=aB i;clear i;by_cases d:0<t.size
  ·have h:=aB (MO t d);have A:t.size-1<t.size:=by omega
   cases j:Mk.dF (t[t.size-1]'A) with
   |true=>
    go_wp2_with (go_at_call 118;refine(lT _ _).mono ?_;rintro e p ⟨rfl,rfl⟩)
    refine⟨⟨_,rfl,by have:=BB t d;omega,?_⟩,BB t d⟩;rw[<-g.u,h.u,wX,wX,yE,TP j]
   |false=>
    go_wp2_with (go_at_call 118;refine(lT _ _).mono ?_;rintro e p ⟨rfl,rfl⟩)
    go_ret;refine⟨pa (ie ?_),rfl⟩;rw[<-x.u,f.u,<-g.u,h.u,wX,yE,j];rfl
  ·go_wp2
   go_ret;refine⟨pa (ie ?_),rfl⟩;rw[<-x.u,f.u,<-g.u];have:t.data.toList=[]:=by rw[WI,<-Uf];omega
   rw[this];rfl
def c_ (w:ax):Prop:=∃m,w.cell? ⟨0,0,none⟩=some (.int .i64 m)
theorem c_.aE {w:ax}(h:c_ w)(e:Below w.heap.size w j):c_ j :=by obtain⟨m,d⟩:=h;exact⟨m,(e.cell (p:=⟨0,0,none⟩) (U5 w _ d)).trans d⟩
theorem below_drewN (w:ax)(n:Nat):Below w.heap.size w (w.drewN n):=by
 induction n with
 |zero=>exact TF _ _
 |succ k d=>exact d.drew
theorem tF (c:UInt8)(s:az)(w:ax)(h:s.size<=4294967200)(f:c_ w):
 Calls prog 160 #[.string s,.string ⟨#[c]⟩] w λe d=>e= .returned (.tuple #[.string ⟨(Mk.bj c s.data.toList).toArray⟩,.string ⟨(bQ c s.data.toList).toArray⟩,.bool (Mk.has c s.data.toList)])/\Below w.heap.size w d :=by obtain⟨m,g⟩:=f;refine(Any.strings_Cut Tryz.RL s ⟨#[c]⟩ m w (by omega) g).mono ?_;rintro e d ⟨rfl,n,rfl⟩;refine⟨?_,below_drewN w n⟩;show Ending.returned (.tuple #[.string ⟨(Lib.cut s.data.toList [c]).1.toArray⟩,.string ⟨(Lib.cut s.data.toList [c]).2.1.toArray⟩,.bool (Lib.cut s.data.toList [c]).2.2])=_;rw[Qm]
theorem Cm (s:az)(w:ax)(f:s.size<=4294967296):
 Calls prog 123 #[.string s,.string ⟨#[92]⟩] w λe d=>e= .returned (.bool (dR s.data.toList))/\w=d :=by refine(Any.strings_HasSuffix Tryz.RE s ⟨#[92]⟩ w (by omega)).mono ?_;rintro e d ⟨rfl,rfl⟩;exact⟨ko (Bn _),rfl⟩
theorem Ku (s:az)(w:ax)(f:s.size<=4294967296)(h:dR s.data.toList=true):
 Calls prog 207 #[.string s,.string ⟨#[92]⟩] w λe d=>e= .returned (.string ⟨s.data.toList.dropLast.toArray⟩)/\w=d :=by refine(Any.strings_TrimSuffix Tryz.RQ s ⟨#[92]⟩ w (by omega)).mono ?_;rintro e d ⟨rfl,rfl⟩;refine⟨pa ?_,rfl⟩;show(⟨(Lib.trimSuffix s.data.toList [92]).toArray⟩:az)=_;rw[Jf _ h]
theorem LJ (s:az)(w:ax)(g:s.size<=4294967296):
 Calls prog 209 #[.string s,.string ⟨#[92]⟩] w λe d=>e= .returned (.string ⟨(gg s.data.toList).toArray⟩)/\Below w.heap.size w d :=by refine(Any.strings_TrimRight_laid Tryz.Rw (by kernel_rfl) s ⟨#[92]⟩ w (by omega) (by decide) (aay (by decide))).mono ?_;rintro e d ⟨rfl,f⟩;refine⟨pa ?_,f⟩;show(⟨(Lib.trimRightS s.data.toList [92]).toArray⟩:az)=_;rw[I9]
theorem Ms (s:az)(w:ax):
 Calls prog 250 #[.string s,.string ⟨#[32,9]⟩] w λe d=>e= .returned (.string ⟨(fE s.data.toList).toArray⟩)/\Below w.heap.size w d :=by refine(Any.strings_TrimLeft_laid Tryz.Q_ (by kernel_rfl) s ⟨#[32,9]⟩ w (by decide) (aay (by decide))).mono ?_;rintro e d ⟨rfl,f⟩;refine⟨pa ?_,f⟩;show(⟨(Lib.trimLeftS s.data.toList [32,9]).toArray⟩:az)=_;rw[Jk]
theorem Sw (s:az)(w:ax)(g:s.size<=4294967296):
 Calls prog 147 #[.string s,.string ⟨#[32,9]⟩] w λe d=>e= .returned (.string ⟨(Mk.cut s.data.toList).toArray⟩)/\Below w.heap.size w d :=by refine(Any.strings_Trim_laid Tryz.Rv (by kernel_rfl) s ⟨#[32,9]⟩ w (by omega) (by decide) (aay (by decide))).mono ?_;rintro e d ⟨rfl,f⟩;refine⟨pa ?_,f⟩;show(⟨(Lib.trimS s.data.toList [32,9]).toArray⟩:az)=_;rw[MI]
theorem Cv (s d:az)(w:ax):
 Calls prog 158 #[.string s,.string d] w λe f=>e= .returned (.bool (d.data.toList.isPrefixOf s.data.toList))/\w=f :=by refine(Any.strings_HasPrefix Tryz.Sb s d w).mono ?_;rintro e f ⟨rfl,rfl⟩;exact⟨rfl,rfl⟩
theorem Cx (s d:az)(w:ax):
 Calls prog 126 #[.string s,.string d] w λe f=>e= .returned (.tuple #[.string ⟨(Lib.trimPrefix s.data.toList d.data.toList).toArray⟩,.bool (d.data.toList.isPrefixOf s.data.toList)])/\w=f :=by refine(Any.strings_CutPrefix Tryz.Hl s d w).mono ?_;rintro e f ⟨rfl,rfl⟩;exact⟨rfl,rfl⟩
theorem tW (s d t:az)(w:ax)(h:d.data.toList.isPrefixOf s.data.toList=true)(g:s.data.toList.drop d.data.toList.length=t.data.toList):
 Calls prog 126 #[.string s,.string d] w λe f=>e= .returned (.tuple #[.string t,.bool true])/\w=f :=by
 refine(Cx s d w).mono ?_;rintro e f ⟨rfl,rfl⟩;refine⟨?_,rfl⟩;have:Lib.trimPrefix s.data.toList d.data.toList=t.data.toList:=by unfold Lib.trimPrefix Lib.hasPrefix;rw[TP h,g]
 rw[this,h,<-ie (t:=t) rfl]
theorem vB (s d:az)(w:ax)(h:d.data.toList.isPrefixOf s.data.toList=false):
 Calls prog 126 #[.string s,.string d] w λe f=>e= .returned (.tuple #[.string s,.bool false])/\w=f :=by
 refine(Cx s d w).mono ?_;rintro e f ⟨rfl,rfl⟩;refine⟨?_,rfl⟩;have:Lib.trimPrefix s.data.toList d.data.toList=s.data.toList:=by unfold Lib.trimPrefix Lib.hasPrefix;rw[h];rfl
 rw[this,h,<-ie (t:=s) rfl]
theorem sR (s:az)(w:ax)(f:s.size<=4294967296):
 Calls prog 95 #[.string s] w λe d=>e= .returned (.string ⟨(Mk.cut s.data.toList).toArray⟩)/\Below w.heap.size w d :=by
 go_enter func95,ntmps95;go_wp2_with (go_at_call 147;refine(Sw _ _ f).mono ?_;rintro e h ⟨rfl,g⟩)
 go_ret;exact⟨rfl,g⟩
theorem BV (s:az)(w:ax):
 Calls prog 208 #[.string s] w λe d=>e= .returned (.string ⟨(fE s.data.toList).toArray⟩)/\Below w.heap.size w d :=by
 go_enter func208,ntmps208;go_wp2_with (go_at_call 250;refine(Ms _ _).mono ?_;rintro e g ⟨rfl,f⟩)
 go_ret;exact⟨rfl,f⟩
def dx (l:Ln):ay:= .agg #[.int .i64 l.d',.int .i64 l.cC,.string ⟨l.left.toArray⟩,.string ⟨l.right.toArray⟩]
theorem pd {B b:Nat}{a:ax}(h:Below B a j)(d:B<=b)(v0 v1 e f:ay):
 Below B a ((((j.setCell ⟨b,0,none⟩ v0).setCell ⟨b,1,none⟩ v1).setCell ⟨b,2,none⟩ e).setCell ⟨b,3,none⟩ f):=
 (((h.setCell (p:=⟨b,0,none⟩) d v0).setCell (p:=⟨b,1,none⟩) d v1).setCell (p:=⟨b,2,none⟩) d e).setCell (p:=⟨b,3,none⟩) d f
theorem pW {w:ax}{o:Obj}(d:Below (w.alloc o).heap.size (w.alloc o) j):Below w.heap.size w j:=(aj w _).trans (d.mono (by simp))
theorem I' (s:az)(w:ax):
 Calls prog 159 #[.string s] w λe h=>e= .returned (dx (nk s.data.toList))/\Below w.heap.size w h :=by
 go_enter func159,ntmps159;go_wp2_with (go_at_call 208;refine(BV _ _).mono ?_;rintro e j ⟨rfl,f⟩;obtain⟨g,i⟩:=Ig f)
 ·refine Ua (v:=dx (nk s.data.toList)) ?_ rfl ⟨rfl,?_⟩
  ·rename_i d;simp[results,results159,go_sem,g,dx,nk,d,Ln.zero]
  ·exact pd (pW f) ak _ _ _ _
 ·refine Ua (v:=dx (nk s.data.toList)) ?_ rfl ⟨rfl,?_⟩
  ·rename_i d;simp[results,results159,go_sem,g,dx,nk,d]
  ·exact pd (pW f) ak _ _ _ _
theorem I_ (s:az)(w:ax):
 Calls prog 162 #[.string s] w λe g=>e= .returned (.tuple #[dx (kF s.data.toList).1,.int .i64 (kF s.data.toList).2])/\Below w.heap.size w g :=by
 cases f:s.toList.isEmpty with
 |true=>
  have d:s.data.toList.isEmpty=true:=by rw[<-UQ];exact f
  go_enter func162,ntmps162;go_wp2
  refine Ua (v:= .tuple #[dx (kF s.data.toList).1,.int .i64 (kF s.data.toList).2]) ?_ rfl ⟨rfl,aj w _⟩;simp[results,results162,go_sem,dx,kF,d,Ln.zero]
 |false=>
  have d:s.data.toList.isEmpty=false:=by rw[<-UQ];exact f
  go_enter func162,ntmps162;go_wp2
  refine Ua (v:= .tuple #[dx (kF s.data.toList).1,.int .i64 (kF s.data.toList).2]) ?_ rfl ⟨rfl,aj w _⟩;simp[results,results162,go_sem,dx,kF,d]
end Go.Proofs.YtjelacjggijmfaaGreatDoor
namespace Go.Cp
open Pl Mk Cp Proofs.Tryz
section
variable {N:Bs->Nv} {sg:UInt8->Option Bs} {m:List Bs} {k:Nat} {a t rest:Bs} {r q:Er}
theorem bM.nil (h:Mk.has 36 t=true)(d:bQ 36 t=[]):bM N sg m k a t ⟨[],1,k⟩:=⟨1,by rw[dU,TJ (by rw[h];decide),d]⟩
theorem bM.xl (h:Mk.has 36 t=true)(g:bQ 36 t=36::rest)(e:bM N sg m k (da (da a (Mk.bj 36 t)) [36]) rest r):bM N sg m k a t r:=by obtain⟨f,d⟩:=e;refine⟨f+1,?_⟩;rw[dU,TJ (by rw[h];decide),g];simp only[Vn];exact d
theorem bM.gS (h:Mk.has 36 t=true)(e:bQ 36 t=40::rest)(d:Mk.has 41 rest=false\/eo (Mk.bj 41 rest)=false):bM N sg m k a t ⟨[],1,k⟩:=by refine⟨1,?_⟩;rw[dU,TJ (by rw[h];decide),e];simp only;rw[TJ (by decide),TP trivial,TP d]
theorem bM.nG {c:UInt8}(h:Mk.has 36 t=true)(j:bQ 36 t=c::rest)(i:c≠36)(g:c≠40):(sg c=none->bM N sg m k a t ⟨[],1,k⟩)/\(∀d,sg c=some d->bM N sg m k (da (da a (Mk.bj 36 t)) d) rest r->bM N sg m k a t r):=by
 refine⟨λe=>⟨1,?_⟩,λd e p=> ?_⟩
 ·rw[dU,TJ (by rw[h];decide),j];simp only;rw[TJ i,TJ g,e]
 ·obtain⟨f,n⟩:=p;refine⟨f+1,?_⟩;rw[dU,TJ (by rw[h];decide),j];simp only;rw[TJ i,TJ g,e];exact n
def qi (N:Bs->Nv)(sg:UInt8->Option Bs)(m:List Bs)(k:Nat)(name:Bs)(r:Er):Prop:=
 (300<k+1/\r=⟨[],5,k+1⟩)\/(¬300<k+1/\(N name).mQ=true/\name∈m/\r=⟨[],4,k+1⟩)\/
 (¬300<k+1/\(N name).mQ=true/\name∉m/\bM N sg (m++[name]) (k+1) [] (N name).aT r)\/(¬300<k+1/\(N name).mQ=false/\r=⟨(N name).aT,0,k+1⟩)
theorem bM.pJ (h:Mk.has 36 t=true)(n:bQ 36 t=40::rest)(z:Mk.has 41 rest=true)(B:eo (Mk.bj 41 rest)=true)(y:qi N sg m k (Mk.bj 41 rest) r):
 (r.er≠0->bM N sg m k a t ⟨[],r.er,r.bq⟩)/\(r.er=0->∀q,bM N sg m r.bq (da (da a (Mk.bj 36 t)) r.bE) (bQ 41 rest) q->bM N sg m k a t q):=by
 have j:¬(Mk.has 41 rest=false\/eo (Mk.bj 41 rest)=false):=by rw[z,B];simp
 rcases y with⟨d,rfl⟩|⟨d,g,s,rfl⟩|⟨d,g,s,i,v⟩|⟨d,g,rfl⟩
 ·refine⟨λ_=>⟨1,?_⟩,λe=>by simp at e⟩;rw[dU,TJ (by rw[h];decide),n];simp only;rw[TJ (by decide),TP trivial,TJ j,TP d]
 ·refine⟨λ_=>⟨1,?_⟩,λe=>by simp at e⟩;rw[dU,TJ (by rw[h];decide),n];simp only;rw[TJ (by decide),TP trivial,TJ j,TJ d,TP g,TP s]
 ·refine⟨λe=>⟨i+1,?_⟩,λe q u=> ?_⟩
  ·rw[dU,TJ (by rw[h];decide),n];simp only;rw[TJ (by decide),TP trivial,TJ j,TJ d,TP g,TJ s,v];simp only;rw[TJ e]
  ·obtain⟨p,x⟩:=u;refine⟨i+p+1,?_⟩;rw[dU,TJ (by rw[h];decide),n];simp only;rw[TJ (by decide),TP trivial,TJ j,TJ d,TP g,TJ s,oX i (i+p) _ _ _ _ _ (by omega) v];simp only;rw[TP e];exact oX p (i+p) _ _ _ _ _ (by omega) x
 ·refine⟨λe=>by simp at e,λ_ q u=> ?_⟩;obtain⟨f,A⟩:=u;refine⟨f+1,?_⟩;rw[dU,TJ (by rw[h];decide),n];simp only;rw[TJ (by decide),TP trivial,TJ j,TJ d,TJ (by rw[g];decide)];exact A
end
end Go.Cp
namespace Go.Proofs.YtjelacjggijmfaaGreatDoor
open Pl Mk Cp Proofs.Tryz
open RowKit
theorem EN (c:UInt8):qn c.toNat=Mk.dF c:=by rw[U3];simp[qn,Mk.dF,<-UInt8.toNat_inj];omega
theorem Cb (c:UInt8):wrap32 (c.toNat:Int)=c.toNat:=by have:=c.toNat_lt;unfold wrap32;omega
def sQ (l:List UInt8):ay:= .tuple #[.string ⟨(if iJ l then Mk.cut (l.drop 7) else []).toArray⟩,.bool (iJ l)]
theorem B3 {l:List UInt8}(d:ig.isPrefixOf l=true){c:UInt8}{r:List UInt8}(h:l.drop 7=c::r):iJ l=Mk.dF c:=by unfold iJ;rw[d,h];rfl
theorem LD {l:List UInt8}(d:ig.isPrefixOf l=true)(h:l.drop 7=[]):iJ l=true:=by unfold iJ;rw[d,h];rfl
theorem Jb (s:az)(w:ax)(C:s.size<=4294967296):
 Calls prog 161 #[.string s] w λe A=>e= .returned (sQ s.data.toList)/\Below w.heap.size w A :=by
 cases j:ig.isPrefixOf s.data.toList with
 |false=>
  have i:Hid (iJ s.data.toList=false):=by unfold iJ;rw[j];rfl
  have g:=aB j;clear j;go_enter aaz,Z';go_wp2_with (go_at_call 126;refine(vB s ⟨#[105,110,99,108,117,100,101]⟩ _ g.u).mono ?_;rintro e h ⟨rfl,rfl⟩)
  go_ret2
  refine⟨?_,TF _ _⟩;unfold sQ;rw[i.u];rfl
 |true=>
  obtain⟨t,p⟩:∃t:az,s.data.toList.drop 7=t.data.toList:=⟨⟨(s.data.toList.drop 7).toArray⟩,by simp⟩;have x:t.size<=4294967296:=by have E:=Uf t;have z:=TU List.length p;have D:=Uf s;rw[UM] at z;omega
  have g:=aB j;have f:=aB p;clear j p;cases v:t.toList.isEmpty with
  |true=>
   have i:Hid (iJ s.data.toList=true):=LD g.u (by rw[f.u];exact wO v);go_enter aaz,Z';go_wp2_with (first|(go_at_call 126;refine(tW s ⟨#[105,110,99,108,117,100,101]⟩ t _ g.u f.u).mono ?_;rintro e h ⟨rfl,rfl⟩)|(go_at_call 95;refine(sR t _ x).mono ?_;rintro e h ⟨rfl,d⟩))
   go_ret2
   refine⟨?_,d⟩;unfold sQ;rw[i.u,f.u];rfl
  |false=>
   have n:0<t.size:=by have:=Ci v;rw[Uf];exact Uy.2 this
   have y:=aB (vV t n);cases d:Mk.dF (t[0]'n) with
   |true=>
    have i:Hid (iJ s.data.toList=true):=by show _=_;rw[B3 g.u (f.u.trans y.u)];exact d
    have B:qn (wrap32 (t[0]'n).toNat)=true:=by rw[Cb,EN];exact d
    go_enter aaz,Z';go_wp2_with (first|(go_at_call 126;refine(tW s ⟨#[105,110,99,108,117,100,101]⟩ t _ g.u f.u).mono ?_;rintro e h ⟨rfl,rfl⟩)|(go_at_call 212;refine(yl _ _).mono ?_;rintro e h ⟨rfl,rfl⟩)|(go_at_call 95;refine(sR t _ x).mono ?_;rintro e h ⟨rfl,d⟩))
    go_ret2
    refine⟨?_,d⟩;unfold sQ;rw[i.u,f.u];rfl
   |false=>
    have i:Hid (iJ s.data.toList=false):=by show _=_;rw[B3 g.u (f.u.trans y.u)];exact d
    have B:qn (wrap32 (t[0]'n).toNat)=false:=by rw[Cb,EN];exact d
    go_enter aaz,Z';go_wp2_with (first|(go_at_call 126;refine(tW s ⟨#[105,110,99,108,117,100,101]⟩ t _ g.u f.u).mono ?_;rintro e h ⟨rfl,rfl⟩)|(go_at_call 212;refine(yl _ _).mono ?_;rintro e h ⟨rfl,rfl⟩))
    go_ret2
    refine⟨?_,TF _ _⟩;unfold sQ;rw[i.u];rfl
def uJ (l:List UInt8):ay:= .tuple #[.int .i64 (gX l).1,.string ⟨(gX l).2.toArray⟩]
theorem J7 {l:List UInt8}(h:List.isPrefixOf [58,61] l=true):gX l=(3,l.drop 2):=by
 match l,h with
 |[],h=>simp[List.isPrefixOf] at h
 |[_],h=>simp[List.isPrefixOf] at h
 |a::b::r,h=>simp[List.isPrefixOf] at h;obtain⟨rfl,rfl⟩:=h;rfl
theorem KN {l:List UInt8}(h:List.isPrefixOf [61] l=true):gX l=(4,l.drop 1):=by
 match l,h with
 |[],h=>simp[List.isPrefixOf] at h
 |a::r,h=>simp[List.isPrefixOf] at h;subst h;rfl
theorem Ks {l:List UInt8}(e:List.isPrefixOf [58,61] l=false)(d:List.isPrefixOf [61] l=false):gX l=(5,l.tail):=by
 unfold gX;split
 ·simp[List.isPrefixOf] at e
 ·simp[List.isPrefixOf] at d
 ·rfl
theorem Jj (s:az)(w:ax)(v:0<s.size):
 Calls prog 214 #[.string s] w λe n=>e= .returned (uJ s.data.toList)/\Below w.heap.size w n :=by
 cases d:List.isPrefixOf [58,61] s.data.toList with
 |true=>
  have g:=aB (J7 d);have h:=aB d;clear d;go_enter func214,ntmps214;go_wp2_with (go_at_call 126;refine(tW s ⟨#[58,61]⟩ ⟨(s.data.toList.drop 2).toArray⟩ _ h.u (by simp)).mono ?_;rintro e i ⟨rfl,rfl⟩)
  go_ret2
  refine⟨?_,TF _ _⟩;unfold uJ;rw[g.u];rfl
 |false=>
  have h:=aB d;cases f:List.isPrefixOf [61] s.data.toList with
  |true=>
   have g:=aB (KN f);have j:=aB f;clear d f;go_enter func214,ntmps214;go_wp2_with (first|(go_at_call 126;refine(vB s ⟨#[58,61]⟩ _ h.u).mono ?_;rintro e i ⟨rfl,rfl⟩;clear h)|(go_at_call 126;refine(tW s ⟨#[61]⟩ ⟨(s.data.toList.drop 1).toArray⟩ _ j.u (by simp)).mono ?_;rintro e i ⟨rfl,rfl⟩))
   go_ret2
   refine⟨?_,TF _ _⟩;unfold uJ;rw[g.u];rw[List.drop_one];rfl
  |false=>
   have g:=aB (Ks d f);have j:=aB f;clear d f;go_enter func214,ntmps214;go_wp2_with fail
   refine(vB s ⟨#[58,61]⟩ _ h.u).mono ?_;rintro e i ⟨rfl,rfl⟩;go_wp2_with fail
   refine(vB s ⟨#[61]⟩ _ j.u).mono ?_;rintro e i ⟨rfl,rfl⟩;go_wp2_with fail
   go_region
   go_wp2
   go_ret2
   refine⟨?_,(TF _ _).drew⟩;unfold uJ;have p:s.extract 1 s.size=⟨s.data.toList.tail.toArray⟩:=ie (by rw[VY,List.drop_one]);rw[g.u];show Ending.returned (.tuple #[.int .i64 5,.string (s.extract 1 s.size)])=_;rw[p];rfl
theorem I8 (n:Int)(k:Nat)(s t:az)(w:ax):
 Calls prog 215 #[.agg #[.int .i64 n,.int .i64 k,.string s,.string t]] w λe i=>e= .returned (.bool (fq k s.data.toList))/\Below w.heap.size w i :=by
 go_enter func215,ntmps215;go_wp2_with (go_at_call 244;refine(Dw _ _).mono ?_;rintro e p ⟨rfl,j⟩)
 ·rename_i h;go_ret;refine⟨ko ?_,aj w _⟩;rw[UQ] at h;have d :(s.data.toList==ig)=true:=h;unfold fq;rw[d];rfl
 ·rename_i h _ _ g;go_ret;refine⟨ko ?_,aj w _⟩;rw[UQ] at h;have d :(s.data.toList==ig)=false:=h;have f :(k==5)=true:=by rw[UR] at g⊢;omega
  unfold fq;rw[d,f,UQ];rfl
 ·rename_i h g;go_ret;refine⟨ko ?_,pW j⟩;rw[UQ] at h;have d :(s.data.toList==ig)=false:=h;have f :(k==5)=false:=by rw[TQ] at g⊢;omega
  unfold fq;rw[d,f];rfl
end Go.Proofs.YtjelacjggijmfaaGreatDoor
namespace Go.Mk
open Pl Mk Cp Proofs.Tryz
theorem zn (s:az)(d:Nat)(h:d<s.size):s.data.toList[d]?=some (s.get! d):=by
 have e:d<s.data.toList.length:=by rw[<-Uf];exact h
 rw[TH e];congr 1;have:=get_at s d h;rw[Ve] at this;rw[this];rfl
theorem BY (s:az)(d:Nat)(h:d<s.size):s.get! d=s[d]'h:=by have:=get_at s d h;rwa [Ve] at this
theorem yH (s:az)(d:Nat)(h:d<s.size)(j:128<=(s[d]'h).toNat)(e:Nat)(n:e<(Utf8.decode s d).2):
 d+e<s.size/\128<=(s.get! (d+e)).toNat:=by
 have i:=Lib.decodeN_conts (s.size-d) (s.get! d).toNat (s.get! (d+1)).toNat (s.get! (d+2)).toNat (s.get! (d+3)).toNat;rw[Lib.decode_at] at n;obtain⟨g,f,p,u⟩:=i;rcases(by omega:e=0\/e=1\/e=2\/e=3) with rfl|rfl|rfl|rfl
 ·rw[Ve,BY s d h];exact⟨h,j⟩
 ·have:=g (by omega);exact⟨by omega,by omega⟩
 ·have:=f (by omega);exact⟨by omega,by omega⟩
 ·have:=p (by omega);exact⟨by omega,by omega⟩
def jb (n:Nat):Bool:=n==32||n==9
theorem D4 (c:UInt8):jb c.toNat=dF c:=by rw[U3];simp[jb,dF,<-UInt8.toNat_inj]
theorem O1 (c:UInt8)(h:128<=c.toNat):dF c=false:=by rw[<-D4];simp[jb];omega
theorem B0:∀(r d rest:Bs),(∀c∈r,dF c=false)->eB d (r++rest)=eB (d++r) rest
 |[],d,rest,_=>by simp
 |c::r,d,rest,h=>by have e:=h c (TY ..);rw[UE,eB,e];simp only[Uj,Vk];rw[B0 r (d++[c]) rest (λx f=>h x (TX _ f))];simp
theorem Jw (s:az)(d:Nat)(h:d<s.size)(u:128<=(s[d]'h).toNat):
 ∀c∈(s.data.toList.drop d).take (Utf8.decode s d).2,dF c=false:=by
 intro c p;obtain⟨e,g,rfl⟩:=Y_.1 p;have i:e<(Utf8.decode s d).2:=by rw[Um] at g;omega
 obtain⟨n,j⟩:=yH s d h u e i;have v:=zn s (d+e) n;refine O1 _ ?_;have f:((s.data.toList.drop d).take (Utf8.decode s d).2)[e]?=some (s.get! (d+e)):=by rw[ZE,TP i,List.getElem?_drop,v]
 rw[TH g] at f;rw[UX f];exact j
def mH (l:Bs)(d:Nat):Option Nat->Bs
 |none=>[]
 |some a=>(l.drop a).take (d-a)
theorem KR (s:az):∀(f d:Nat) (st:Option Nat) (e:List (Nat×Nat)),s.size<=d+f->d<=s.size->(∀a,st=some a->a<d)->
 (Lib.closeSpans s (Lib.spansFromP jb s f d st e)).map (λx=>(s.extract x.1 x.2).data.toList)=
  e.map (λx=>(s.extract x.1 x.2).data.toList)++eB (mH s.data.toList d st) (s.data.toList.drop d):=by
 have G:=Uf s;have C:∀(f d:Nat) (st:Option Nat) (e:List (Nat×Nat)),¬d<s.size->d<=s.size->(∀a,st=some a->a<d)->
  (Lib.closeSpans s (Lib.spansFromP jb s f d st e)).map (λx=>(s.extract x.1 x.2).data.toList)=
   e.map (λx=>(s.extract x.1 x.2).data.toList)++eB (mH s.data.toList d st) (s.data.toList.drop d):=by
  intro f d st e g u i;rw[Lib.spansFromP_end _ _ _ _ _ _ g];have E:s.data.toList.drop d=[]:=U_ (by omega);rw[E];have H:d=s.size:=by omega
  cases st with
  |none=>simp[Lib.closeSpans,mH,eB]
  |some a=>
   have A:=i a rfl;have z:((s.data.toList.drop a).take (d-a)).isEmpty=false:=by rw[V9];intro y;have:=TU List.length y;rw[Um,UM,T1] at this;omega
   simp only[Lib.closeSpans,T',Ug,VL,mH,eB,z];rw[Wj,H];simp
 intro f;induction f with
 |zero=>exact λd st e h u i=>C 0 d st e (by omega) u i
 |succ f n=>
  intro d st e h u i;by_cases g:d<s.size
  ·have v:s.data.toList.drop d=(s[d]'g)::s.data.toList.drop (d+1):=T2 (by rw[<-G];exact g);unfold Lib.spansFromP;rw[TP g];by_cases I:(s[d]'g).toNat<128
   ·rw[Zq s d g I];simp only;rw[D4];cases j:dF (s[d]'g) with
    |true=>
     rw[v,eB,j];simp only[Vn];cases st with
     |none=>simp only;rw[n (d+1) none e (by omega) (by omega) (by simp)];simp[mH]
     |some a=>
      have A:=i a rfl;have z:((s.data.toList.drop a).take (d-a)).isEmpty=false:=by rw[V9];intro y;have:=TU List.length y;rw[Um,UM,T1] at this;omega
      simp only;rw[n (d+1) none (e++[(a,d)]) (by omega) (by omega) (by simp)];simp only[T',Ug,VL,mH,z];rw[Wj];simp
    |false=>
     rw[v,eB,j];simp only[Uj,Vk];cases st with
     |none=>simp only;rw[n (d+1) (some d) e (by omega) (by omega) (by simp)];simp only[mH,UI];rw[v,show d+1-d=1 from by omega];rfl
     |some a=>have A:=i a rfl;simp only;rw[n (d+1) (some a) e (by omega) (by omega) (by intro b p;cases p;omega)];simp only[mH];congr 2;rw[show d+1-a=(d-a)+1 from by omega,TW (by rw[UM];omega)];congr 2;rw[List.getElem_drop];show(s.data.toList[a+(d-a)]'_)=s.data.toList[d]'_;congr 1;omega
   ·have j:128<=(s[d]'g).toNat:=by omega
    have K:=(ZS s d g j).1;have J:=(ZS s d g j).2;have F:jb (Utf8.decode s d).1=false:=by simp[jb];omega
    have L:=(yH s d g j ((Utf8.decode s d).2-1) (by omega)).1;have B:d+(Utf8.decode s d).2<=s.size:=by omega
    have D:=B0 ((s.data.toList.drop d).take (Utf8.decode s d).2) (mH s.data.toList d st) (s.data.toList.drop (d+(Utf8.decode s d).2)) (Jw s d g j);rw[<-Ws,VW] at D;rw[F,D,Ws];simp only[Uj,Vk];cases st with
    |none=>simp only;rw[n (d+(Utf8.decode s d).2) (some d) e (by omega) B (by intro b p;cases p;omega)];simp only[mH,UI];rw[show d+(Utf8.decode s d).2-d=(Utf8.decode s d).2 from by omega]
    |some a=>have A:=i a rfl;simp only;rw[n (d+(Utf8.decode s d).2) (some a) e (by omega) B (by intro b p;cases p;omega)];simp only[mH];congr 2;rw[show d+(Utf8.decode s d).2-a=(d-a)+(Utf8.decode s d).2 from by omega,List.take_add,Ws,show a+(d-a)=d from by omega]
  ·exact C (f+1) d st e g u i
theorem Jo (s:az):(Lib.goFieldsP jb s).map (·.data.toList)=bH s.data.toList:=by have:=KR s s.size 0 none [] (by omega) (TS _) (by simp);simp only[VL,UI,mH,V4] at this;unfold Lib.goFieldsP Lib.spansOfP bH;rw[WT];exact this
