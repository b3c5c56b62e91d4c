/- . -/
import Derived.Test.YtjelacjggijmfaaGreatDoorYRB
import Derived.Lib.BufferRead
import Derived.Deep.Cut
set_option linter.all false
set_option maxHeartbeats 4000000
set_option maxRecDepth 20000
namespace Go.Proofs.YtjelacjggijmfaaGreatDoor
open Pl Mk Cp Proofs.Tryz
variable {f W Z:ay}{b i n A E h x:Nat}{d r:fy}{g:ga}{e X:Wd}{j m ve vf vc v q:az}{p:f'}{c k:aj}{ss:fv}{C:jb}{fl:Nat->Bool}{s u:aJ}
namespace Cp
structure Wr where
 a_:List (hU)
 bk:hU
 lK:Bool
def du(n:Nat):Nat->hU
 |0=>[]
 |1=>[UInt8.ofNat n]
 |_=>[UInt8.ofNat (n/256),UInt8.ofNat n]
def iC(n d:Nat):Bool:=decide (256^d<=n)
def Wr.bh(w:Wr)(s:hU):Nat:=(w.a_.findIdx? (λx=>x==s)).getD w.a_.length
def Wr.dd(w:Wr)(s:hU):Wr:=match w.a_.findIdx? (λx=>x==s) with
 |some _=>w
 |none=>⟨w.a_++[s],w.bk,w.lK⟩
def Wr.put(w:Wr)(n d:Nat):Wr:=⟨w.a_,w.bk++du n d,w.lK||iC n d⟩
def Wr.op(w:Wr)(op:Nat):Wr:=⟨w.a_,w.bk++[UInt8.ofNat op],w.lK⟩
end Cp
section
open RowKit MapKept ChangeMaps Maps
abbrev dr:=List (aj×az)
def cG(l:dr)(k:aj):Option az:=(l.find? (λx=>x.1==k)).map (·.2)
def fh:dr->aj->az->dr
 |[],k,v=>[(k,v)]
 |x::d,k,v=>if x.1==k then(k,v)::d else x::fh d k v
def bF(w:ay)(b:Nat)(l:dr):Prop:=∃d f,w.heap[b]?=some (.map d f)/\Stamped d f/\d.size<=maxLen/\d.toList.map (λe=>(e.key,e.val))=l.map (λx=>(aK x.1,x.2))
def IJ(h:aK c=aK k):c=k:=by unfold aK at h;injection h with h;injection h with h;simpa using h
def J_:((⟨c.toArray⟩:aA)==⟨k.toArray⟩)=(c==k):=by show(c.toArray==k.toArray)=_;simp
theorem yn(k:aj):∀(d:List MapEntry) (l:dr) (f:Nat),d.map (λe=>(e.key,e.val))=l.map (λx=>(aK x.1,x.2))->
 (cG l k=none/\Instr.findNow .string (aK k) d f=some none/\(∀e∈d,e.key≠aK k)/\fh l k=λv=>l++[(k,v)])\/
 ∃j v e,cG l k=some v/\Instr.findNow .string (aK k) d f=some (some (f+j,v))/\d[j]?=some e/\e.key=aK k/\∀i,(d.modify j (λe=>{e with key:=aK k,val:=i })).map (λe=>(e.key,e.val))=(fh l k i).map (λx=>(aK x.1,x.2))
 |[],[],f,_=> .inl ⟨rfl,rfl,by simp,rfl⟩
 |[],x::l,f,h=>by simp at h
 |e::d,[],f,h=>by simp at h
 |e::d,x::l,f,h=>by
  simp only[YE,ob,adH]at h;have⟨⟨m,C⟩,z⟩:=h;have A:Instr.sameNow .string (aK k) e.key=some (k==x.1):=by rw[m];unfold aK Instr.sameNow;simp only[J_]
  by_cases g:x.1=k
  ·right;refine⟨0,e.val,e,?_,?_,rfl,by rw[m,g],λi=>?_⟩
   ·unfold cG;simp[g,C]
   ·unfold Instr.findNow;rw[A,g];simp
   unfold fh;simp[g,z]
  have y:(x.1==k)=false:=by simpa using g
  have F:(k==x.1)=false:=by simpa using λe=>g e.symm
  have B:cG (x::l) k=cG l k:=by unfold cG;simp[y]
  have E:∀v,fh (x::l) k v=x::fh l k v:=λv=>by rw[fh,y];rfl
  have D:Instr.findNow .string (aK k) (e::d) f=Instr.findNow .string (aK k) d (f+1):=by rw[Instr.findNow,A,F]
  obtain⟨q,n,u,p⟩|⟨j,v,r,q,n,u,p,G⟩:=yn k d l (f+1) z
  ·refine .inl ⟨by rw[B,q],by rw[D,n],?_,?_⟩
   ·intro r s;obtain rfl|s:=YD.1 s
    ·rw[m];exact λe=>g (IJ e)
    exact u r s
   funext v;rw[E,p];rfl
  refine .inr ⟨j+1,v,r,by rw[B,q],by rw[D,n];congr 3;omega,by simpa using u,p,λi=>?_⟩;rw[E,YE,<-G i];simp[m,C]
section
variable {P:Program}{w:ay}{l:dr}{t J K:TypeId}
def xa(e:P.underlying J=some .string)(d:Bool)(k:aj):(Instr.checkKey d 10000 J (aK k)).run P w=.ok () w:=by unfold aK;rw[show (10000:Nat)=9999+1 from rfl,Instr.checkKey];simp only[Sem.run_bind,run_underlying e,Result.andThen];rfl
def bF.lt(h:bF w b l):b<w.heap.size:=by have⟨e,f,d,_⟩:=h;exact(X8.1 d).1
def bF.lV(h:bF w b l)(j:f.heap[b]?=w.heap[b]?):bF f b l:=by have⟨g,i,e,d⟩:=h;exact⟨g,i,j.trans e,d⟩
def bF.aD(h:bF w b l)(d:μ w f):bF f b l:=h.lV (d.block b h.lt)
def bF.aP{B:Nat}(h:bF w b l)(d:Below B w f)(e:b<B):bF f b l:=h.lV (d.block b e)
def bF.kept{d:ib}(h:bF w b l)(e:w.grownBy f d)(g:some b≠d):bF f b l:=h.lV (e.block b h.lt g)
def bF.setCell(h:bF w b l){a:Addr}(d:b≠a.block)(u:az):bF (w.setCell a u) b l:=h.lV (Ys w a u b d)
def bF.oj(w:ay):bF (w.alloc (.map #[] 0)) w.heap.size []:=⟨#[],0,heap_alloc_new w _,stamped_empty 0,Yh _,rfl⟩
def bF.look(h:bF w b l)(g:P.underlying t=some (.map J K))(d:P.underlying J=some .string)(q:(zeroValue K).run P w=.ok j w)(k:aj)(c:Bool):
 (Instr.lookup t (.map (some b)) (aK k) c).run P w=.ok (if c then .tuple #[(cG l k).getD j,.bool (cG l k).isSome] else(cG l k).getD j) w:=by
 have⟨z,y,i,s,u,n⟩:=h;obtain⟨f,e,m,p⟩|⟨r,v,A,f,e,m,p,x⟩:=yn k z.toList l 0 n
 ·rw[f];simp[Instr.lookup,run_underlying g,MapKept.run_getObj_map i,xa d,Instr.findKey,run_underlying d,e,q,Result.andThen]
 rw[f];simp[Instr.lookup,run_underlying g,MapKept.run_getObj_map i,xa d,Instr.findKey,run_underlying d,e,Result.andThen]
def bF.put(h:bF w b l)(x:P.underlying t=some (.map J K))(j:P.underlying J=some .string)(F:l.length<maxLen)(k:aj)(v:az):
 ∃n,(Instr.mapUpdate t (.map (some b)) (aK k) v).run P w=.ok () n/\bF n b (fh l k v)/\w.mapTurned n b:=by
 have⟨d,f,g,y,E,r⟩:=h;have s:=(X8.1 g).1;have H:d.size=l.length:=by have:=Yg List.length r;simpa using this
 obtain⟨B,i,p,m⟩|⟨q,G,D,B,i,p,m,C⟩:=yn k d.toList l 0 r
 ·refine⟨setBlock w b (.map (d.push ⟨aK k,v,f⟩) (f+1)),?_,⟨d.push ⟨aK k,v,f⟩,f+1,by simp[setBlock,s],stamped_push y p,by simp;omega,?_⟩,d,f,_,_,g,rfl⟩
  ·simp[Instr.mapUpdate,run_underlying x,MapKept.run_getObj_map g,xa j,Instr.findKey,run_underlying j,i,MapKept.run_setObj_map _ g,Result.andThen,setBlock]
  rw[congrFun m v];simp[r]
 rw[YO]at i;have z:d[q]?=some D:=by simpa using p
 refine⟨setBlock w b (.map (d.modify q (λe=>{e with key:=aK k,val:=v})) f),?_,⟨d.modify q (λe=>{e with key:=aK k,val:=v}),f,by simp[setBlock,s],stamped_modify y _ _ (λ_ _=>rfl) (λI _ u=>?_),by simpa using E,?_⟩,d,f,_,_,g,rfl⟩
 ·have A:(Instr.keyThatStays (aK k) (aK k)).run P w=.ok (aK k) w:=by
   unfold aK;simp[Instr.keyThatStays,Instr.sameBits,J_]
  simp[Instr.mapUpdate,run_underlying x,MapKept.run_getObj_map g,xa j,Instr.findKey,run_underlying j,i,z,m,A,MapKept.run_setObj_map _ g,Result.andThen,setBlock]
 ·rw[z]at u;cases u;exact m.symm
 rw[Array.toList_modify];exact C v
end
section
variable {P:Program} (w:ay) {bL:kt} {D:List Oper} {o:Oper} {a:Act} {Q:Exit->Act->ay->Prop}
def nh(h:o.guard=none)(m x:Operand)(t:TypeId)(j:o.op=Op.lookup t m x true)(c y:TypeId)(e:P.underlying t=some (.map c y))(p:P.underlying c=some .string)(z:az)(s:(zeroValue y).run P w=.ok z w)(b:Nat)(l:dr)(n:a.eval m=.map (some b))(g:bF w b l)(k:aj)(i:a.eval x=σ k)(u:az)(f:cG l k=some u)(q:wpList P bL Q D (a.put o.dst (.tuple #[u,.bool true])) w):wpList P bL Q (o::D) a w:=by refine K' h λv r=>?_;have d:=g.look e p s k true;rw[f]at d;unfold aK at d;unfold Oper.wp;simp[execOp,j,n,i,d,Result.andThen];exact r _ _ q
def nj(h:o.guard=none)(m x:Operand)(t:TypeId)(j:o.op=Op.lookup t m x true)(c v:TypeId)(e:P.underlying t=some (.map c v))(p:P.underlying c=some .string)(z:az)(s:(zeroValue v).run P w=.ok z w)(b:Nat)(l:dr)(n:a.eval m=.map (some b))(g:bF w b l)(k:aj)(i:a.eval x=σ k)(f:cG l k=none)(q:wpList P bL Q D (a.put o.dst (.tuple #[z,.bool false])) w):wpList P bL Q (o::D) a w:=by refine K' h λu r=>?_;have d:=g.look e p s k true;rw[f]at d;unfold aK at d;unfold Oper.wp;simp[execOp,j,n,i,d,Result.andThen];exact r _ _ q
def nk(h:o.guard=none)(m x:Operand)(t:TypeId)(j:o.op=Op.lookup t m x false)(c y:TypeId)(e:P.underlying t=some (.map c y))(p:P.underlying c=some .string)(z:az)(s:(zeroValue y).run P w=.ok z w)(b:Nat)(l:dr)(n:a.eval m=.map (some b))(g:bF w b l)(k:aj)(i:a.eval x=σ k)(u:az)(f:(cG l k).getD z=u)(q:wpList P bL Q D (a.put o.dst u) w):wpList P bL Q (o::D) a w:=by refine K' h λv r=>?_;have d:=g.look e p s k false;rw[f]at d;unfold aK at d;unfold Oper.wp;simp[execOp,j,n,i,d,Result.andThen];exact r _ _ q
def q_(j:o.guard=none)(m x v:Operand)(t:TypeId)(n:o.op=Op.mapUpdate t m x v)(c C:TypeId)(h:P.underlying t=some (.map c C))(s:P.underlying c=some .string)(b:Nat)(l:dr)(r:a.eval m=.map (some b))(i:bF w b l)(f:l.length<maxLen)(k:aj)(p:a.eval x=σ k)(u:az)(y:a.eval v=u)(z:∀d,bF d b (fh l k u)->w.mapTurned d b->wpList P bL Q D (a.put o.dst undef) d):wpList P bL Q (o::D) a w:=by refine K' j λB A=>?_;have⟨d,e,g,q⟩:=i.put h s f k u;unfold aK at e;unfold Oper.wp;simp[execOp,n,r,p,y,e,Result.andThen];exact A _ _ (z d g q)
end
def fC(f:aJ):az:=.agg #[.string ⟨f.aL.toArray⟩,.string ⟨f.aU.toArray⟩,ι f.jK]
def dw(d:fy):dr:=d.map (λf=>(f.aL,fC f))
def l_:cG (dw d) c=(Pl.look d c).map fC:=by
 unfold cG dw Pl.look;rw[afH,show ((λx:aj×az=>x.1==c)∘λf:aJ=>(f.aL,fC f))=(λf=>f.aL==c) from rfl];cases d.find? (λf=>f.aL==c) with
 |none=>rfl|some f=>rfl
def Ku:fh (dw d) s.aL (fC s)=dw (fR d s):=by
 induction d with
 |nil=>rfl
 |cons e g i=>
  unfold fR;show fh ((e.aL,fC e)::dw g) s.aL (fC s)=_;rw[fh];by_cases h:e.aL==s.aL
  ·rw[Yd h,Yd h];rfl
  rw[Yb h,Yb h,i];rfl
def RI(h:Pl.look d s.aL=none):fR d s=d++[s]:=by
 induction d with
 |nil=>rfl
 |cons g k i=>
  rw[yo]at h;simp only[YE,YD,not_or]at h;have j:¬(g.aL==s.aL)=true:=by simpa using λe=>h.1 e.symm
  rw[fR,Yb j,i (yo.2 h.2)];rfl
def UI(h:Pl.look d s.aL=some u):Pl.bA d s=d:=by unfold Pl.bA;rw[h];rfl
def Ud(h:Pl.look d s.aL=none):Pl.bA d s=fR d s:=by rw[RI h];unfold Pl.bA;rw[h];rfl
def lX:(zeroValue 65).run prog f=.ok (.agg #[ε,ε,ι 0]) f:=by kernel_rfl
def turned_below{B:Nat}(h:W.mapTurned f B)(q:b<=B):Below b W f:=by
 have d:=h.grown;exact⟨d.os,d.tape,d.output,d.size,λk n=>by
  by_cases i:k<W.heap.size
  ·exact d.block k i (λe=>by cases e;omega)
  obtain⟨m,r,j,g,p,rfl⟩:=h;have:(setBlock W B (.map j g)).heap.size=W.heap.size:=by simp[setBlock]
  rw[abV (by omega),abV (by omega)]⟩
def Mg(d:fy)(a:fY)(G b o:Nat)(w:ay)(I:0<d.length->a=some ⟨b,o,none⟩)(F:eJ w b o d)(L:b<w.heap.size)(t:d.length<=8388608):
 Calls prog 85 #[.slice a d.length G] w λe v=>e=.returned (.map (some w.heap.size))/\bF v w.heap.size (dw (d.foldl Pl.bA []))/\μ w v:=by
 have y:= @B' prog;go_in;go_wp2
 go_loopw [11] (λr wr=>∃k:Nat,r=ι k/\k<=d.length/\bF wr w.heap.size (dw ((d.take k).foldl Pl.bA []))/\Below w.heap.size w wr) (λr _=>d.length-aV r)
 case atStart=>exact⟨0,rfl,Yh _,bF.oj w,ak w (.map #[] 0)⟩
 obtain⟨k,rfl,Y,j,p⟩:=hrel;by_cases z:k<d.length
 ·obtain rfl:=(aC I).u (by omega);have⟨T,N,l⟩:=(F.aP p L) k z;have i:=aC (Ha d k z);have O:((d.take k).foldl Pl.bA []).length<=8388608:=by have:=Cm (d.take k) [];simp at this;omega
  have V:=j.lt;generalize S:d[k]=c at*;generalize (d.take k).foldl Pl.bA []=f at*;unfold aK at T N
  have s:∀o:Obj,bF (wr.alloc o) w.heap.size (dw f):=λo=>j.aD (ak wr o);have E:∀o q:Obj,bF ((wr.alloc o).alloc q) w.heap.size (dw f):=λo q=>(s o).aD (ak _ q);have H:∀o q:Obj,Below w.heap.size w ((wr.alloc o).alloc q):=λo q=>(p.alloc (by omega) o).alloc (by rw[X_];omega) q;have x:(dw f).length<=8388608:=by unfold dw;rw[Yk];exact O
  cases g:Pl.look f c.aL with
  |some A=>
   have h:cG (dw f) c.aL=some (fC A):=by rw[l_,g];rfl
   have n:Hid ((d.take (k+1)).foldl Pl.bA []=f):=by show _=_;rw[i.u,UI g]
   have m:=aC h;as_aux_lemma=>
    go_wp2_with (at_lookup;refine nh _ rfl _ _ 177 rfl 9 65 Ze Yj _ (lX) w.heap.size (dw f) rfl (s _) c.aL rfl (fC A) m ?_;unfold fC)
    go_roundw
    case rel=>exact⟨k+1,by go_num,by omega,by rw[n.u];exact E _ _,H _ _⟩
    simp only[aV];omega
  |none=>
   have h:cG (dw f) c.aL=none:=by rw[l_,g];rfl
   have n:Hid (dw ((d.take (k+1)).foldl Pl.bA [])=fh (dw f) c.aL (fC c)):=by show _=_;rw[i.u,Ud g,Ku]
   have m:=aC h;as_aux_lemma=>
    go_wp2_with (first|(at_lookup;refine nj _ rfl _ _ 177 rfl 9 65 Ze Yj _ (lX) w.heap.size (dw f) rfl (s _) c.aL rfl m ?_)|(refine q_ _ rfl _ _ _ 177 rfl 9 65 Ze Yj w.heap.size (dw f) rfl (E _ _) (by unfold maxLen;omega) c.aL rfl (fC c) rfl ?_;intro U C D))
    go_roundw
    case rel=>exact⟨k+1,by go_num,by omega,by rw[n.u];exact C,(H _ _).trans (turned_below D ax)⟩
    simp only[aV];omega
 have B:d.take k=d:=YF (by omega);rw[B]at j;go_wp2
 go_ret;exact⟨rfl,j,p⟩
def I9{l:dr}:cG (fh l k j) c=if k=c then some j else cG l c:=by
 induction l with
 |nil=>unfold fh cG;by_cases h:k=c<;>simp[h]
 |cons x i g=>
  rw[fh];by_cases f:x.1=k
  ·rw[Yd (by simpa using f)];unfold cG;by_cases h:k=c
   ·simp[h]
   simp[h,f]
  rw[Yb (by simpa using f)];unfold cG at g⊢;by_cases d:x.1=c
  ·have:¬k=c:=λe=>f (d.trans e.symm);simp[d,this]
  rw[CY (by simpa using d),g,CY (by simpa using d)]
def IZ(l:dr)(k:aj)(v:az):(fh l k v).length<=l.length+1:=by
 induction l with
 |nil=>simp[fh]
 |cons x d e=>rw[fh];split<;>simp;omega
def nZ(d:ga)(l:dr):Prop:=l.length<=d.length/\∀c,cG l c=(d.findIdx? (λe=>e.dg==c)).map (λf=> ι (f:Nat))
def nZ.nil:nZ [] []:=⟨X0 _,λc=>by simp[cG]⟩
def nZ.fS{l:dr}(h:nZ g l)(e:bu){v:az}(d:cG l e.dg=some v):nZ (g++[e]) l:=by
 refine⟨by simp;have:=h.1;omega,λc=>?_⟩;rw[h.2 c,ZS];cases i:g.findIdx? (λe=>e.dg==c) with
 |some j=>rfl
 |none=>
  have:¬e.dg=c:=λf=>by subst f;rw[h.2 e.dg,i]at d;cases d
  simp[this]
def nZ.bq{l:dr}(h:nZ g l)(e:bu)(d:cG l e.dg=none):nZ (g++[e]) (fh l e.dg (ι (g.length:Nat))):=by
 refine⟨by have:=IZ l e.dg (ι (g.length:Nat));have:=h.1;simp;omega,λc=>?_⟩;rw[I9,ZS];by_cases f:e.dg=c
 ·subst f;rw[h.2 e.dg]at d;cases i:g.findIdx? (λx=>x.dg==e.dg) with
  |some j=>rw[i]at d;cases d
  |none=>simp
 rw[Yb f,h.2 c];cases i:g.findIdx? (λx=>x.dg==c) with|some j=>rfl|none=>simp[f]
def yN:(zeroValue 3).run prog f=.ok (ι 0) f:=by kernel_rfl
def LK(d:ga)(a:fY)(S L b o:Nat)(w:ay)(J:0<d.length->a=some ⟨b,o,none⟩)(F:kX w L b o d)(O:L<=w.heap.size)(K:d.length<=8388608):
 Calls prog 86 #[.slice a d.length S] w λe y=>e=.returned (.map (some w.heap.size))/\(∃l,bF y w.heap.size l/\nZ d l)/\μ w y:=by
 have q:= @B' prog;go_in;go_wp2
 go_loopw [11] (λf wr=>∃(k:Nat) (l:dr),f=ι k/\k<=d.length/\bF wr w.heap.size l/\nZ (d.take k) l/\Below w.heap.size w wr) (λf _=>d.length-aV f)
 case atStart=>exact⟨0,[],rfl,Yh _,bF.oj w,nZ.nil,ak w (.map #[] 0)⟩
 obtain⟨k,l,rfl,Q,s,h,r⟩:=hrel;by_cases A:k<d.length
 ·obtain rfl:=(aC J).u (by omega);obtain⟨T,t,x,N,z,P,G,-⟩:=(F.aP (r.mono O)).2 k A;have j:=Yn A;have m:(d.take k).length=k:=by rw[YL];omega
  have M:=h.1;rw[m]at M;have Y:=s.lt;generalize I:d[k]=c at*;unfold aK at T
  have n:∀o:Obj,bF (wr.alloc o) w.heap.size l:=λo=>s.aD (ak wr o);have H:∀o:Obj,Below w.heap.size w (wr.alloc o):=λo=>r.alloc (by omega) o;have U:l.length<maxLen:=by unfold maxLen;omega
  cases g:cG l c.dg with
  |some v=>
   have i:=h.fS c g;rw[<-j]at i;obtain⟨f,R⟩:∃f:Nat,v=ι f:=by
    have:=h.2 c.dg;rw[g]at this;cases C:(d.take k).findIdx? (λe=>e.dg==c.dg) with
    |none=>rw[C]at this;cases this
    |some f=>rw[C]at this;exact⟨f,by simpa using this⟩
   subst R;have p:=aC g;as_aux_lemma=>
    go_wp2_with (at_lookup;refine nh _ rfl _ _ 179 rfl 9 3 rV Yj _ (yN) w.heap.size l rfl (n _) c.dg rfl _ p ?_)
    go_roundw
    case rel=>exact⟨k+1,l,by go_num,by omega,n _,i,H _⟩
    simp only[aV];omega
  |none=>
   have i:=h.bq c g;rw[<-j,m]at i;have p:=aC g;as_aux_lemma=>
    go_wp2_with (first|(at_lookup;refine nj _ rfl _ _ 179 rfl 9 3 rV Yj _ (yN) w.heap.size l rfl (n _) c.dg rfl p ?_)|(refine q_ _ rfl _ _ _ 179 rfl 9 3 rV Yj w.heap.size l rfl (n _) U c.dg rfl (ι k) rfl ?_;intro V D E))
    go_roundw
    case rel=>exact⟨k+1,_,by go_num,by omega,D,i,(H _).trans (turned_below E ax)⟩
    simp only[aV];omega
 have B:d.take k=d:=YF (by omega);rw[B]at h;go_wp2
 go_ret;exact⟨rfl,⟨l,s,h⟩,r⟩
end
namespace Pl
open RowKit
theorem Kk:∀{f d h:Nat} {A:Aw} {q x:Nat},zQ c b f d h A->A q=some x->∃B,Spec c b q x B
 |0,_,_,_,_,_,h,_=>h.elim
 |f+1,d,h,A,q,x,i,e=>by
  by_cases j:q=d
  ·subst j;have:=i.1 x e;subst this;exact⟨A,f+1,i⟩
  obtain⟨_,⟨k,v,y,_,_,r,p⟩|⟨k,_,u⟩⟩:=i
  ·have:nC A (bH c d) h q=some x:=by
    unfold nC put;have g:del A d q=some x:=by unfold del;rw[Yb j];exact e
    split
    ·rename_i n;dsimp only;split
     ·rename_i s;have:=r n x (by rw[<-s];exact g);rw[this];rfl
     exact g
    exact g
   exact Kk p this
  rw[u q j]at e;cases e
def Uz{q x:Nat}{A:Aw}(d:Spec c b i n A)(e:A q=some x):∃B,Spec c b q x B:=let ⟨_,hf⟩:=d;Kk hf e
def Sn(c:Bs)(m d h:Nat):Prop:=∃A,Spec c m d h A
def B8(h:jt b≠0):b=1\/b=2\/b=3\/b=4\/b=5\/b=6\/b=7\/b=8:=by
 unfold jt at h;split at h
 ·omega
 split at h
 ·omega
 split at h
 ·omega
 split at h
 ·omega
 exact absurd rfl h
structure Xd(c:Bs)(m p h:Nat):Prop where
 cU:cU c p
 bL:oX m (bH c p)
 ig:ig (opAt c p)<=h
 eX:eX (opAt c p) h<=16
def Sn.zx(g:Sn c b i n)(d:i<c.length):Xd c b i n:=by have⟨A,h⟩:=g;have⟨_,k,e,f,j,_⟩:=(rj d).1 h;exact⟨k,e,f,j⟩
def O1(e:cU c i)(d:ig (opAt c i)<=C.length):(dB ss g (bH c i) C fl X).2.1.length=eX (opAt c i) C.length:=by have f:(bH c i).op=opAt c i:=rfl;unfold dB eX;rw[f];rcases B8 e.1 with h|h|h|h|h|h|h|h<;>rw[h]at d⊢<;>simp[Pl.ig,ny]at d⊢<;>omega
def Sn.next{ss:List Bs}{ef:ga}{fl:Nat->Bool}{X:Wd}(n:Sn c b i C.length)(k:i<c.length):
 Sn c b (dB ss ef (bH c i) C fl X).1 (dB ss ef (bH c i) C fl X).2.1.length/\i<(dB ss ef (bH c i) C fl X).1:=by
 have f:=n.zx k;obtain⟨A,p⟩:=n;obtain⟨_,v,s,z,u,y,g⟩:=(rj k).1 p;rw[O1 f.cU f.ig];have d:(bH c i).op=opAt c i:=rfl;have B:(bH c i).next=i+jt (opAt c i):=rfl;have r:=f.cU.1;by_cases e:opAt c i=6
 ·have j:(dB ss ef (bH c i) C fl X).1=if C.getLast?.getD false then(bH c i).next else(bH c i).next+(bH c i).first:=by
   unfold dB;rw[d,e];simp
  rw[j];split
  ·exact⟨⟨_,g⟩,by omega⟩
  refine⟨Uz g (q:=(bH c i).next+(bH c i).first) (x:=eX (opAt c i) C.length) ?_,by omega⟩;unfold nC put;rw[Yd (by rw[d];exact e)];simp[d]
 have j:(dB ss ef (bH c i) C fl X).1=(bH c i).next:=by
  unfold dB;rw[d];rcases B8 r with h|h|h|h|h|h|h|h<;>first|(exact absurd h e)|(rw [h];simp)
 rw[j];exact⟨⟨_,g⟩,by omega⟩
def Ends(c:Bs)(a:List Bs)(e:ga)(d:Nat)(C:jb)(b:Nat->Bool)(X g:Wd):Prop:=∃f,c.length-d<f/\pX c a e f d C b X=g
def Ends.stop(h:Ends c ss g i C fl X e)(j:¬(i<c.length/\X.exit=0)):X=e:=by have⟨f,_,d⟩:=h;rw[TI j]at d;exact d
def Ends.step(h:Ends c ss g i C fl X e)(j:i<c.length)(k:X.exit=0)(m:i<(dB ss g (bH c i) C fl X).1):
 Ends c ss g (dB ss g (bH c i) C fl X).1 (dB ss g (bH c i) C fl X).2.1 (dB ss g (bH c i) C fl X).2.2.1 (dB ss g (bH c i) C fl X).2.2.2 e:=by
 have⟨f,n,d⟩:=h;cases f with
 |zero=>omega|succ f=>rw[pX,Yd ⟨j,k⟩]at d;exact⟨f,by omega,d⟩
def gm(c:Bs)(a:List Bs)(d:ga)(X:Wd):Wd:=pX c a d (c.length+1) 0 [] (λ_=>false) X
def Ends.start(c:Bs)(a:List Bs)(d:ga)(X:Wd):Ends c a d 0 [] (λ_=>false) X (gm c a d X):=⟨c.length+1,by omega,rfl⟩
end Pl
section
open RowKit
def Tryz.AM:(Tryz.prog.info? 65).map (λd=>(d.zero,d.size,d.bytes))=some (some (.agg #[ε,ε,ι 0]),3,40):=by kernel_rfl
def zf:aJ:=⟨[],[],0⟩
def la:aj:=[116,104,101,32,99,97,108,108,101,114,39,115]
def iw(n:Nat):fy:=(List.range 8).map λd=>⟨la,[],((n+d:Nat):Int)⟩
def OZ:madeCells (Value.agg #[ε,ε,ι 0]).cells (n*3)=(fZ (List.replicate n zf)).toArray:=by
 have m:=Mm (List.replicate n zf);rw[adz]at m;apply Array.ext
 ·rw[XU];simp[m]
 intro d k r;rw[XU]at k;have p:d/3<n:=by omega
 have⟨j,h,i⟩:=ya (List.replicate n zf) (d/3) (by simpa using p);simp only[ZL]at j h i;have e:d % 3=0\/d % 3=1\/d % 3=2:=by omega
 have g:∀v,(fZ (List.replicate n zf))[d]?=some v->(fZ (List.replicate n zf)).toArray[d]=v:=λv q=>by simp only[afI];exact(Yl.1 q).2
 have f:(madeCells (Value.agg #[ε,ε,ι 0]).cells (n*3))[d]'(by rw[XU];exact k)=(#[ε,ε,ι 0])[d % 3]!:=by simp[madeCells,Value.cells]
 obtain e|e|e:=e
 ·rw[g _ (show _=some (aK zf.aL) from by rw[<-j];congr 1;omega)];rw[f,e];rfl
 ·rw[g _ (show _=some (aK zf.aU) from by rw[<-h];congr 1;omega)];rw[f,e];rfl
 rw[g _ (show _=some (ι zf.jK) from by rw[<-i];congr 1;omega)];rw[f,e];rfl
def CR(w:ay)(N:Nat)(t:TypeId)(d:fy):Prop:=aF w N t (fZ d)
def oh(w:ay)(N k:Nat)(f:aJ):ay:=((w.ψ N (k*3) (aK f.aL)).ψ N (k*3+1) (aK f.aU)).ψ N (k*3+2) (ι f.jK)
def CR.set{w:ay}{t:TypeId}(h:CR w b t d)(k:Nat)(e:k<d.length)(f:aJ):CR (oh w b k f) b t (d.set k f):=by unfold CR oh;rw[<-Fc d f k e];exact((aF.set h _ _).set _ _).set _ _
def CR.cells{t:TypeId}(h:CR f b t d)(k:Nat)(m:k<d.length):
 f.cell? ⟨b,k*3,none⟩=some (aK d[k].aL)/\f.cell? ⟨b,k*3+1,none⟩=some (aK d[k].aU)/\f.cell? ⟨b,k*3+2,none⟩=some (ι d[k].jK):=by have⟨q,e,n⟩:=ya d k m;have⟨j,w⟩:=Yl.1 q;have⟨r,p⟩:=Yl.1 e;have⟨g,i⟩:=Yl.1 n;exact⟨by rw[<-w];exact aF.cell h _ j,by rw[<-p];exact aF.cell h _ r,by rw[<-i];exact aF.cell h _ g⟩
def CR.drew{w:ay}{N:Nat}{t:TypeId}(h:CR w N t d):CR w.drew N t d:=h
def CR.Km{t:TypeId}(h:CR f b t d)(k:Nat)(w:k<d.length):∃v0 v1 e,f.cell? ⟨b,k*3,none⟩=some v0/\f.cell? ⟨b,k*3+1,none⟩=some v1/\f.cell? ⟨b,k*3+2,none⟩=some e:=⟨_,_,_,h.cells k w⟩
def CR.rd{t:TypeId}(h:CR f b t d):eJ f b 0 d:=λw e=>by have:=h.cells w e;simpa using this
def ou(d:fy)(k:Nat):fy:=d.take k++List.replicate (d.length-k) zf
def Rq(d:fy)(k:Nat)(h:k<=d.length):(ou d k).length=d.length:=by simp[ou];omega
def To(d:fy)(k:Nat)(h:k<d.length):(ou d k).set k d[k]=ou d (k+1):=by
 unfold ou;have e:(d.take k).length=k:=by simp;omega
 rw[Zc _ _ (by omega),e,ta,Yn h,show d.length-k=(d.length-(k+1))+1 from by omega,afU,Zd,YB];rfl
def set_set(l:fy)(k:Nat)(f d:aJ):(l.set k f).set k d=l.set k d:=List.set_set _
structure Kn(w:ay)(T:fy)(k:Nat)(W:ay):Prop where
 row:CR W w.heap.size 65 (ou T k)
 aP:μ w W
def FN(h:Below b f W)(k:Nat)(w:aJ):Below b f (oh W b k w):=((h.setCell (p:=η b _) ax _).setCell (p:=η b _) ax _).setCell (p:=η b _) ax _
def ID(d:fy)(k:Nat)(e:d.length<=k)(f:k<d.length+8)(h:k<(d++iw d.length).length):(d++iw d.length)[k]=⟨la,[],(k:Int)⟩:=by rw[aeq e];simp only[iw,YT,G'];congr 1;omega
def AO(d:fy)(a:fY)(cap b o:Nat)(w:ay)(M:0<d.length->a=some (η b o))(I:eJ w b o d)(S:b<w.heap.size)(hl:d.length<=8388608):
 Calls prog 12 #[.slice a d.length cap] w λe A=>e=.returned (ξ w.heap.size d.length (d.length+8))/\CR A w.heap.size 65 (d++iw d.length)/\μ w A:=by
 have⟨t,K,B,E,H⟩:=Y1 Tryz.AM;have aa:∀w,(Instr.makeSlice 27 (ι ((d.length:Int)+8)) (ι ((d.length:Int)+8))).run prog w=.ok (ξ w.heap.size (d.length+8) (d.length+8)) (w.alloc (.cells (fZ (List.replicate (d.length+8) zf)).toArray 65)):=by intro w;have:=run_make (P:=prog) w 27 65 t _ acU K B .i64 .i64 ((d.length+8:Nat):Int) ((d.length+8:Nat):Int) (by omega) (Int.le_refl _) (by rw[H];omega) (by omega);rw[E,acV,OZ]at this;exact this
 have N:=aC M;have s:(d++iw d.length).length=d.length+8:=by simp[iw]
 have p:Hid (∀k,d.length<=k->k<d.length+8->∀h:k<(d++iw d.length).length,(d++iw d.length)[k]=⟨la,[],(k:Int)⟩):=λk c O h=>ID d k c O h;have q:Hid (∀k (h:k<d.length) (U:k<(d++iw d.length).length),(d++iw d.length)[k]=d[k]):=λk h U=>ZU h;generalize Y:d++iw d.length=T at*;have C:Kn w T 0 (w.alloc (.cells (fZ (List.replicate (d.length+8) zf)).toArray 65)):=by refine⟨?_,ak w _⟩;unfold CR ou;rw[List.take_zero,Y2,s,ad4];exact aF.bq w 65 _
 have y:=aC s;go_in;go_wp2
 go_loopw [4] (λx wr=>∃k:Nat,x=ι k/\k<=d.length+8/\Hid (Kn w T k wr)) (λx _=>d.length+8-aV x)
 case atStart=>exact⟨0,rfl,Yh _,C⟩
 obtain⟨k,rfl,ad,f⟩:=hrel;by_cases F:k<d.length+8
 ·have m:k<T.length:=by rw[y.u];exact F
  have v:=Rq T k (lg m);have⟨v0,v1,v2,c0,c1,c2⟩:=f.row.Km k (by omega);have R:=aF.frozen f.row (k*3);have V:=aF.frozen f.row (k*3+1);have f2:=aF.frozen f.row (k*3+2);have g:=f.row.set k (by omega) ⟨la,[],(k:Int)⟩;have n:=FN f.aP k ⟨la,[],(k:Int)⟩;have z:=aC (To T k m);by_cases D:k<d.length
  ·obtain rfl:=N (by omega);have j:=aC (q k D m);have L:=I.aP n S;have⟨p0,p1,Z⟩:=L k D;have ab:((ou T k).set k ⟨la,[],(k:Int)⟩).length=T.length:=by simp[v]
   have⟨y0,y1,y2,d0,d1,X⟩:=g.Km k (by omega);have g0:=aF.frozen g (k*3);have g1:=aF.frozen g (k*3+1);have g2:=aF.frozen g (k*3+2);have i:Hid (CR (oh (oh wr w.heap.size k ⟨la,[],(k:Int)⟩) w.heap.size k d[k]) w.heap.size 65 (ou T (k+1))):=by have:=g.set k (by omega) d[k];rw[set_set]at this;rw[<-z.u,j.u];exact this
   have l:=FN n k d[k];have Q:(k:Int)<d.length:=by omega
   have J:(k:Int)<d.length+8:=by omega
   generalize d[k]=W at*;unfold oh World.ψ aK la at*;simp only at*;go_wp2
   generalize (((wr.setCell (η w.heap.size (k*3)) (.string ⟨#[116,104,101,32,99,97,108,108,101,114,39,115]⟩)).setCell (η w.heap.size (k*3+1)) (ε)).setCell (η w.heap.size (k*3+2)) (ι k))=W1 at*;go_region
   all_goals go_wp2
   all_goals go_roundw
   all_goals first
    |exact⟨k+1,by go_num,by omega,i.drew,l.drew⟩
    |(simp only[aV];omega)
  have j:=aC (p k (by omega) F m);have Q:¬(k:Int)<d.length:=by omega
  have J:(k:Int)<d.length+8:=by omega
  have i:Hid (CR (oh wr w.heap.size k ⟨la,[],(k:Int)⟩) w.heap.size 65 (ou T (k+1))):=by rw[<-z.u,j.u];exact g
  unfold oh aK la at*;simp only at*;go_wp2
  go_roundw
  case rel=>exact⟨k+1,by go_num,by omega,i,n⟩
  simp only[aV];omega
 have G:ou T k=T:=by
  unfold ou;rw[YF (by rw[y.u];omega),show T.length-k=0 from by rw[y.u];omega];simp
 have r:=f.row;rw[G]at r;have i:=aC r;have J:¬(k:Int)<d.length+8:=by omega
 go_wp2
 go_ret;exact⟨rfl,i,f.aP⟩
def CR.aP{t:TypeId}(h:CR W b t d)(e:Below n W f)(g:b<n):CR f b t d:=aF.aP h e g
def Gx(d:fy)(a:fY)(K b o N:Nat)(w:ay)(B:0<d.length->a=some ⟨b,o,none⟩)(z:eJ w b o d)(F:b<w.heap.size)(l:d.length<=8388608)(j:CR w N 65 (d++iw d.length)):
 Calls prog 16 #[.slice (some ⟨N,0,none⟩) d.length (d.length+8),.slice a d.length K] w λe D=>e=.returned (.bool true)/\Below w.heap.size w D:=by
 have C:=aC B;have J:=aF.lt j;have v:(d++iw d.length).length=d.length+8:=by simp[iw]
 have g:Hid (∀k,d.length<=k->k<d.length+8->∀h:k<(d++iw d.length).length,(d++iw d.length)[k]=⟨la,[],(k:Int)⟩):=λk I E h=>ID d k I E h;have i:Hid (∀k (h:k<d.length) (G:k<(d++iw d.length).length),(d++iw d.length)[k]=d[k]):=λk h G=>ZU h;generalize H:d++iw d.length=T at*;have R:=aC v;go_in;go_wp2
 go_loopw [6] (λr wr=>∃k:Nat,r=.int .i64 k/\k<=d.length+8/\Hid (Below w.heap.size w wr)) (λr _=>d.length+8-aV r)
 case atStart=>exact⟨0,rfl,Yh _,X5 _ _⟩
 obtain⟨k,rfl,U,f⟩:=hrel;by_cases y:k<d.length+8
 ·have m:k<T.length:=by rw[R.u];exact y
  have s:=j.aP f J;have⟨n,p,q⟩:=s.cells k m;have L:=f.size;have:N<wr.heap.size:=by omega
  have:b<wr.heap.size:=by omega
  have:(k:Int)<d.length+8:=by omega
  have A:∀o,Hid (Below w.heap.size w (wr.alloc o)):=λo=>f.alloc L o;by_cases x:k<d.length
  ·obtain rfl:=C (by omega);rw[i.u k x m]at n p q;have⟨t,c,V⟩:=z.aP f F k x;have:(k:Int)<d.length:=by omega
   generalize d[k]=S at*;unfold aK at*;go_wp2
   go_region
   all_goals go_wp2
   all_goals go_quiet (fail)
   all_goals go_wp2
   all_goals go_roundw
   all_goals first
    |exact⟨k+1,by go_num,by omega,Below.drewN (uh (A _)) _⟩
    |(simp only[aV];omega)
  rw[g.u k (by omega) y m]at n p q;have:¬(k:Int)<d.length:=by omega
  unfold aK la at*;simp only at n p q;go_wp2
  go_quiet (fail)
  go_wp2
  all_goals go_roundw
  all_goals first
   |exact⟨k+1,by go_num,by omega,Below.drewN (uh (A _)) _⟩
   |(simp only[aV];omega)
 have:¬(k:Int)<d.length+8:=by omega
 go_wp2
 go_ret;exact⟨rfl,f⟩
def kM(n:Nat):aj:=[107,101,112,116,32,UInt8.ofNat (97+n)]
def kept:aj:=[107,101,112,116]
def BJ(n:Nat)(p:n<3)(w:ay):Calls prog 56 #[ι n] w λe g=>e=.returned (aK (kM n))/\μ w g:=by
 have d:∀x:UInt8,(convert 126 9 (ξ w.heap.size 1 1)).run prog (w.alloc (.cells #[.int .u8 (x.toNat:Int)] 5))=.ok (.string ⟨[x].toArray⟩) (w.alloc (.cells #[.int .u8 (x.toNat:Int)] 5)):=λx=>by
  refine acW _ _ _ 5 _ 1 [x] YI Zv Yj ?_;intro i h;have f:i=0:=by simpa using h
  subst f;simp[Addr.add]
 have j:(convert 126 9 (ξ w.heap.size 1 1)).run prog (w.alloc (.cells #[.int .u8 97] 5))=.ok (.string ⟨#[97]⟩) (w.alloc (.cells #[.int .u8 97] 5)):=d 97;have k:(convert 126 9 (ξ w.heap.size 1 1)).run prog (w.alloc (.cells #[.int .u8 98] 5))=.ok (.string ⟨#[98]⟩) (w.alloc (.cells #[.int .u8 98] 5)):=d 98;have m:(convert 126 9 (ξ w.heap.size 1 1)).run prog (w.alloc (.cells #[.int .u8 99] 5))=.ok (.string ⟨#[99]⟩) (w.alloc (.cells #[.int .u8 99] 5)):=d 99;have:n=0\/n=1\/n=2:=by omega
 obtain rfl|rfl|rfl:=this;all_goals go_in
 all_goals go_wp2
 all_goals go_ret
 all_goals refine⟨?_,ak w _⟩
 all_goals rfl
def nU(w:ay)(b o:Nat)(e:fv):Prop:=∀d (h:d<e.length),w.cell? ⟨b,o+d,none⟩=some (aK e[d])
def nU.aP(h:nU W b i ss)(d:Below n W f)(j:b<n):nU f b i ss:=λe g=>by rw[d.cell (p:=η b (i+e)) j];exact h e g
structure Boxed(w:ay)(N:Nat)(t:TypeId)(v0 v1 v2 v3:az)(W:ay):Prop where
 row:aF W N t [v0,v1,v2,v3]
 aP:μ w W
def Boxed.cells{t:TypeId}(h:Boxed f b t ve vf j m W):W.cell? ⟨b,0,none⟩=some ve/\W.cell? ⟨b,1,none⟩=some vf/\W.cell? ⟨b,2,none⟩=some j/\W.cell? ⟨b,3,none⟩=some m:=⟨h.row.cell 0 (by simp),h.row.cell 1 (by simp),h.row.cell 2 (by simp),h.row.cell 3 (by simp)⟩
def Boxed.drewN{t:TypeId}(h:Boxed f b t ve vf j m W)(n:Nat):Boxed f b t ve vf j m (W.drewN n):=⟨h.row.aD (Below.drewN (X5 _ _) n),Below.drewN h.aP n⟩
def T0(w:ay)(t u:TypeId)(b a e d f i h g:az):Boxed w w.heap.size t b a e d ((w.alloc (.cells #[b,a,e,d] t)).alloc (.cells #[f,i,h,g] u))/\Boxed w (w.heap.size+1) u f i h g ((w.alloc (.cells #[b,a,e,d] t)).alloc (.cells #[f,i,h,g] u)):=by have j:μ w ((w.alloc (.cells #[b,a,e,d] t)).alloc (.cells #[f,i,h,g] u)):=(ak w _).alloc (by rw[X_];omega) _;refine⟨⟨(aF.bq w t [b,a,e,d]).aD (ak _ _),j⟩,⟨?_,j⟩⟩;have:=aF.bq (w.alloc (.cells #[b,a,e,d] t)) u [f,i,h,g];rw[X_]at this;exact this
def SL(d:fv)(f:fy)(i j:Int)(v r s p:fY)(A y x z C D B E c b N l:Nat)(w:ay)(W:0<d.length->v=some ⟨C,c,none⟩)(G:0<f.length->r=some ⟨D,b,none⟩)(O:0<d.length->s=some ⟨B,N,none⟩)(K:0<f.length->p=some ⟨E,l,none⟩)(Y:nU w C c d)(r2:eJ w D b f)(F:nU w B N d)(P:eJ w E l f)(l1:0<d.length->C<w.heap.size)(l2:0<f.length->D<w.heap.size)(L:0<d.length->B<w.heap.size)(M:0<f.length->E<w.heap.size)(hc:d.length<=8388608)(hf:f.length<=8388608):
 Calls prog 22 #[.agg #[.slice v d.length A,.slice r f.length y,.int .i64 i,.int .i64 j],.agg #[.slice s d.length x,.slice p f.length z,.int .i64 i,.int .i64 j]] w λe w'=>e=.returned (.bool true)/\Below w.heap.size w w':=by
 go_in;go_wp2
 have⟨S,Z⟩:=T0 w 48 32 (.slice v d.length A) (.slice r f.length y) (.int .i64 i) (.int .i64 j) (.slice s d.length x) (.slice p f.length z) (.int .i64 i) (.int .i64 j);have g:=aC S;have h:=aC Z;generalize ((w.alloc (.cells #[(.slice v d.length A),(.slice r f.length y),(.int .i64 i),(.int .i64 j)] 48)).alloc (.cells #[(.slice s d.length x),(.slice p f.length z),(.int .i64 i),(.int .i64 j)] 32))=W0 at*;go_loopw [5] (λn wr=>∃k:Nat,n=.int .i64 k/\k<=d.length/\Boxed w w.heap.size 48 (.slice v d.length A) (.slice r f.length y) (.int .i64 i) (.int .i64 j) wr/\Boxed w (w.heap.size+1) 32 (.slice s d.length x) (.slice p f.length z) (.int .i64 i) (.int .i64 j) wr) (λn _=>d.length-aV n)
 case atStart=>exact⟨0,rfl,Yh _,g,h⟩
 obtain⟨k,rfl,ac,g,h⟩:=hrel;have⟨V,U,R,H⟩:=g.cells;have⟨T,t,y2,J⟩:=h.cells;by_cases a:k<d.length
 ·obtain rfl:=(aC W).u (by omega);obtain rfl:=(aC O).u (by omega);have aa:=Y.aP g.aP ((aC l1).u (by omega)) k a;have q:=F.aP g.aP ((aC L).u (by omega)) k a;generalize d[k]=ad at*;unfold aK at aa q;have:(k:Int)<d.length:=by omega
  go_wp2
  go_quiet (fail)
  go_wp2
  go_roundw
  case rel=>exact⟨k+1,by go_num,by omega,g.drewN _,h.drewN _⟩
  simp only[aV];omega
 have:¬(k:Int)<d.length:=by omega
 go_wp2
 go_loopw [6] (λn wr=>∃k:Nat,n=.int .i64 k/\k<=f.length/\Boxed w w.heap.size 48 (.slice v d.length A) (.slice r f.length y) (.int .i64 i) (.int .i64 j) wr/\Boxed w (w.heap.size+1) 32 (.slice s d.length x) (.slice p f.length z) (.int .i64 i) (.int .i64 j) wr) (λn _=>f.length-aV n)
 case atStart=>exact⟨0,rfl,Yh _,g,h⟩
 obtain⟨m,rfl,ab,g,h⟩:=hrel;have⟨V,U,R,H⟩:=g.cells;have⟨T,t,y2,J⟩:=h.cells;by_cases I:m <f.length
 ·obtain rfl:=(aC G).u (by omega);obtain rfl:=(aC K).u (by omega);have⟨p0,X,p2⟩:=r2.aP g.aP ((aC l2).u (by omega)) m I;have⟨o,Q,q2⟩:=P.aP g.aP ((aC M).u (by omega)) m I;generalize f[m]=fk at*;unfold aK at p0 X o Q;have:(m:Int)<(f.length:Int):=by omega
  go_wp2
  go_quiet (fail)
  go_wp2
  go_roundw
  case rel=>exact⟨m +1,by go_num,by omega,g.drewN _,h.drewN _⟩
  simp only[aV];omega
 have:¬(m:Int)<(f.length:Int):=by omega
 go_wp2
 go_ret;exact⟨rfl,g.aP⟩
end
namespace Pl
end Pl
section
open RowKit
def xD(f:Nat->Bool)(d:Nat):Nat->Bool:=λq=>if q=d then true else f q
def bI{W:ay}(h:f.ownsRow b i n j A p)(d:∀k,j.ownBlock=some k->W.heap[k]?=f.heap[k]?):W.ownsRow b i n j A p:=by
 refine⟨h.1,?_⟩;obtain m|⟨g,c,a,rfl,e,o,l⟩:=h.2
 ·exact .inl m
 exact .inr ⟨g,c,a,rfl,e,(d g rfl).trans o,l⟩
def aF.kept{w W:ay}{b:Nat}{t:TypeId}{v:f'}(h:aF w b t v)(d:kQ w W)(f:t≠89)(e:t≠9)(g:t≠99):aF W b t v:=(d b _ t _ h f e g).trans h
def JT{w:ay}(h:w.ownsRow b n 1 (ξ i A E) A p)(m:Nat)(y:m<=A):w.ownsRow b n 1 (ξ i m E) m (p.take m):=by
 have:=h.1;refine⟨by simp;omega,.inr ?_⟩;obtain⟨d,_⟩|⟨v,s,k,d,f,q,u,g,r,j⟩:=h.2
 ·cases d
 cases d;refine⟨i,E,k,rfl,f,q,by omega,g,r,?_⟩;rw[<-j,acX];congr 1;omega
section
variable {w:ay}{y:fY}
def sQ(h:nU W b i ss)(f:0<ss.length->Z.heap[b]?=W.heap[b]?):nU Z b i ss:=λe g=>by rw[tq (a:=η b (i+e)) (f (by omega))];exact h e g
end
theorem Ca:∀(x y:hU),Op.bytesLess x y=decide (x<y)
 |_,[]=>by simp[Op.bytesLess]
 |[],_::_=>by simp[Op.bytesLess]
 |a::x,b::y=>by rw[Op.bytesLess,Ca x y,ZE];simp[List.cons_lt_cons_iff]
structure kR(f:aJ)(aE:fy)(k:Nat)(put:Bool)(l:fy):Prop where
 eq:jL f aE=l++(if put then aE.drop k else jL f (aE.drop k))
 le:k<=aE.length
 len:l.length<=k+1
def kR.start(f:aJ)(d:fy):kR f d 0 false []:=⟨rfl,Yh _,by simp⟩
def Cc(h:b<d.length):d.drop b=d[b]::d.drop (b+1):=Yu h
def kR.Xl(h:kR s d b true r)(e:b<d.length)(g:r.length<=b+1):kR s d (b+1) true (r++[d[b]]):=by refine⟨?_,e,by simp;omega⟩;have:=h.eq;rw[Yd rfl,Cc e]at this;rw[this];simp
def kR.vL(h:kR s d b false r)(e:b<d.length)(g:s.aL<d[b].aL)(i:r.length<=b):kR s d (b+1) true (r++[s]++[d[b]]):=by refine⟨?_,e,by simp;omega⟩;have:=h.eq;rw[Yb (by decide),Cc e,jL,Yd g]at this;rw[this];simp
def kR.on(h:kR s d b false r)(e:b<d.length)(g:¬s.aL<d[b].aL)(i:r.length<=b):kR s d (b+1) false (r++[d[b]]):=by refine⟨?_,e,by simp;omega⟩;have:=h.eq;rw[Yb (by decide),Cc e,jL,Yb g]at this;rw[this];simp
def kR.W6(h:kR s d b true r)(e:¬b<d.length):jL s d=r:=by have:=h.eq;rw[Yd rfl,Zz (by omega)]at this;simpa using this
def kR.WK(h:kR s d b false r)(e:¬b<d.length):jL s d=r++[s]:=by have:=h.eq;rw[Yb (by decide),Zz (by omega)]at this;simpa [jL]using this
theorem J3(f:aJ):∀d:fy,(jL f d).length=d.length+1
 |[]=>rfl
 |g::e=>by
  unfold jL;split
  ·rfl
  simp[J3 f e]
def QP(d:fy)(k:Nat)(h:k<d.length):eB (d.take (k+1))=jL d[k] (eB (d.take k)):=by unfold eB;rw[Yn h,r'];rfl
theorem sort_len_aux:∀(e d:fy),(e.foldl (λd f=>jL f d) d).length=d.length+e.length
 |[],_=>rfl|f::g,d=>by rw[YP,sort_len_aux g,J3];simp;omega
def Je(d:fy):(eB d).length=d.length:=by unfold eB;rw[sort_len_aux];simp
structure s9(w:ay)(vc vr:az)(X:Wd)(aE:fy)(W:ay):Prop where
 cS:aF W w.heap.size 32 [ς,ς,ι 0,ι 0]
 df:aF W (w.heap.size+1) 32 [vc,vr,ι X.exit,ι X.aQ]
 aW:gp W (w.heap.size+2) vr aE
 aP:μ w W
def s9.aD{vc:az}(h:s9 f vc j X d W)(e:μ W Z):s9 f vc j X d Z:=⟨h.cS.aD e,h.df.aD e,h.aW.aD e,h.aP.trans (e.mono (by have:=h.cS.lt;omega))⟩
structure oa(w:ay)(Bl:Nat)(vc vr vl:az)(X:Wd)(aE l:fy)(W:ay):Prop where
 kg:s9 w vc vr X aE W
 pV:gp W Bl vl l
 ge:w.heap.size+2<=Bl
 mc:∀g,vr.ownBlock=some g->g<Bl
 size:Bl<=W.heap.size
def oa.aD{vc:az}(h:oa f b vc j m X d r W)(e:μ W Z):oa f b vc j m X d r Z:=⟨h.kg.aD e,h.pV.aD e,h.ge,h.mc,Ye h.size e.size⟩
def oa.push{w:ay}{Y:ay}{f:aJ}(h:oa w b vc j m X d r Y)(g:Y.grownBy Z m.ownBlock)(s:Z.ownsRow b 89 3 q (r.length+1) (fZ r++fP f)):
 oa w b vc j q X d (r++[f]) Z:=by
 have Bl:=h.ge;have i:∀n,n<b->some n≠m.ownBlock:=λn u=>cQ h.pV u;refine⟨⟨h.kg.cS.grown g (i _ (by omega)),h.kg.df.grown g (i _ (by omega)),?_,?_⟩,?_,Bl,h.mc,Ye h.size g.size⟩
 ·have v:j.ownBlock=none\/j.ownBlock≠m.ownBlock:=by
   cases e:j.ownBlock with
   |none=>exact .inl rfl
   |some p=>exact .inr (i p (h.mc p e))
  exact Y' h.kg.aW g v
 ·exact h.kg.aP.trans ⟨g.os,g.tape,g.output,g.size,λk x=>g.block k (by have:=h.kg.cS.lt;omega) (i k (by omega))⟩
 unfold gp;rw[Af];have:(r++[f]).length=r.length+1:=by simp
 rw[this];exact s
def oa.done(h:oa f b vc m j X d r W):s9 f vc j X r (W.ψ (f.heap.size+1) 1 j):=by
 have e:gp W (f.heap.size+2) j r:=by
  refine⟨h.pV.1,?_⟩;obtain q|⟨g,c,a,k,i,l⟩:=h.pV.2
  ·exact .inl q
  exact .inr ⟨g,c,a,k,Ye h.ge i,l⟩
 refine⟨h.kg.cS.dI (by omega) _ _,h.kg.df.set 1 _,cP e (cQ e (by omega)) 1 _,?_⟩;exact h.kg.aP.setCell (p:=η (f.heap.size+1) 1) (l' _) _
def uB(f:aJ):∀u∈fP f,u.oneCell' =true:=by intro u d;simp[fP,aK]at d;rcases d with rfl|rfl|rfl<;>rfl
def T2(h:gp f b j d)(e:d.length=n):f.ownsRow b 89 3 j n (fZ d):=by subst e;exact h
def xM:fY->Nat
 |some a=>a.block
 |none=>0
def Is{a:fY}(h:gp f b (.slice a d.length i) d)(g:0<d.length):eJ f (xM a) 0 d/\a=some ⟨xM a,0,none⟩:=by obtain⟨m,j,k,e,B,c,-⟩:=h.rd;simp only[acT,Zw]at e;obtain⟨rfl,rfl⟩:=e;have:=B g;subst this;exact⟨c,rfl⟩
def oa.U3(h:oa f b vc (ξ i d.length n) j X d r W)(k:Nat)(m:k<d.length)(p:d[k]=s):
 W.cell? ⟨f.heap.size+1,1,none⟩=some (ξ i d.length n)/\W.cell? ⟨i,k*3,none⟩=some (σ s.aL)/\W.cell? ⟨i,k*3+1,none⟩=some (σ s.aU)/\W.cell? ⟨i,k*3+2,none⟩=some (ι s.jK):=by have⟨Bl,e,g⟩:=(Is h.kg.aW (by omega)).1 k m;subst p;simp only[YO]at Bl e g;exact⟨by simpa using h.kg.df.cell 1 (by simp),Bl,e,g⟩
def N6(B R:Nat)(ve vf:az)(C:fY)(y x:Nat)(X:Wd)(w:ay)(h:RW w B R ve vf (.slice C y x) X)(hl:X.aW.length<=8388608):
 Calls prog 50 #[π R] w λe w'=>(∃vr,e=.returned (.agg #[.slice C y x,vr,ι X.exit,ι X.aQ])/\gp w' (w.heap.size+2) vr (eB X.aW))/\μ w w':=by
 unfold π ι;have⟨U,hj,a3,aH,aX⟩:=Y1 Tryz.A6;have⟨z,c1,c2,c3,c4⟩:=h.cells;have:=h.row.lt;have V:=aC hj;have Q:=aC a3;have c:=aC aH;have o:=aC aX;clear hj a3 aH aX;go_in;go_wp2
 go_region
 have a0:s9 w (.slice C y x) (ς) X [] ((w.alloc (.cells #[ς,ς,ι 0,ι 0] 32)).alloc (.cells #[.slice C y x,ς,ι X.exit,ι X.aQ] 32)).drew:=by have h1:=aF.bq w 32 [ς,ς,ι 0,ι 0];have h2:=aF.bq (w.alloc (.cells #[ς,ς,ι 0,ι 0] 32)) 32 [.slice C y x,ς,ι X.exit,ι X.aQ];rw[X_]at h2;exact⟨(h1.alloc _).drew,h2.drew,gp.nil _ _,((ak w _).alloc (by rw[X_];omega) _).drew⟩
 clear z c1 c2 c3 c4;go_wp2
 go_loopw [4] (λau wr=>∃(k:Nat) (vr:az),au=.int .i64 k/\k<=X.aW.length/\Hid (s9 w (.slice C y x) vr X (eB (X.aW.take k)) wr)) (λau _=>X.aW.length-aV au)
 case atStart=>exact⟨0,_,rfl,Yh _,a0⟩
 clear a0;obtain⟨k,vr,rfl,bj,g⟩:=hrel;have ah:=h.aD g.aP;obtain⟨G,cv,gv,rfl,ai,aG,-⟩:=g.aW.rd;obtain⟨af,cf,j,rfl,an,aw,-⟩:=ah.aW.rd;obtain⟨z,-,-,-,-⟩:=ah.cells;by_cases hk:k<X.aW.length
 ·obtain rfl:=an (by omega);have⟨K,I,E⟩:=aw k hk;have a6:=aC (QP X.aW k hk);have aY:=Je (X.aW.take k);rw[YL,mY bj]at aY;have:(eB (X.aW.take k)).length<=8388608:=by omega
  clear aY;have bh:=g.df.lt;have aI:oa w wr.heap.size (.slice C y x) (.slice G (eB (X.aW.take k)).length cv) (ς) X (eB (X.aW.take k)) [] wr:=⟨g,gp.nil _ _,by omega,λba hg=>(g.aW.lt ba hg).2,X0 _⟩;have bc:Hid (∀W,μ w W->W.χ R 0=some (ξ j X.aW.length cf)/\W.χ j (k*3)=some (σ X.aW[k].aL)/\W.χ j (k*3+1)=some (σ X.aW[k].aU)/\W.χ j (k*3+2)=some (ι X.aW[k].jK)):=by intro W hb;have O:=h.aD hb;obtain⟨a2,c2,g2,e2,h2,r2,-⟩:=O.aW.rd;simp only[acT,Zw]at e2;have⟨q,r,A⟩:=r2 k hk;have e3:=h2 (by omega);rw[<-e2.1]at e3;simp only[H9,afY,rB]at e3;obtain rfl:=e3;simp only[YO]at q r A;exact⟨O.cells.1,q,r,A⟩
  generalize bf:X.aW[k]=a at*;generalize bk:eB (X.aW.take k)=b at*;have:(k:Int)<X.aW.length:=by omega
  clear bf bk ah aw an K I E aG ai g;generalize a_:wr.heap.size=Bl at*;go_wp2
  clear z;go_loopw [5,6,7] (λl pt i2 a9=>∃(d:Nat) (J:Bool) (vl:az) (n:fy),l=vl/\pt=.bool J/\i2=.int .i64 d/\Hid (kR a b d J n)/\Hid (J=false->n.length<=d)/\Hid (oa w Bl (.slice C y x) (.slice G b.length cv) vl X b n a9)) (λ_ _ i2 _=>b.length-aV i2)
  case atStart=>exact⟨0,false,_,[],rfl,rfl,rfl,kR.start a b,λ_=>Yh _,aI⟩
  clear aI a_;obtain⟨d,J,vl,n,rfl,rfl,rfl,m,bd,i⟩:=hrel;obtain⟨al,cl,gl,rfl,-,-,-⟩:=i.pV.rd;have⟨z,K,I,E⟩:=bc wr i.kg.aP;have M:=i.kg.df.cell 1 (by simp);have:=i.kg.df.frozen 1;simp only[X6,X7]at M;have aq:=i.size;have bm:=m.len;have:=m.le;by_cases L:d<b.length
  ·have T:=Is i.kg.aW (by omega);obtain⟨T,ai⟩:=T;have⟨q,r,A⟩:=T d L;generalize xM G=D at*;subst ai;simp only[YO]at q r A;unfold aK at q r;have:(d:Int)<b.length:=by omega
   have HP:=λ(h:kR a b d true n)=>h.Xl L bm;cases J with
   |true=>
    have P:=HP m;generalize Z:b[d]=gk at*;clear m T HP;go_wp2
    go_quiet (fail)
    have H:=i.aD (Below.drewN (X5 _ wr) nq);have:Bl<=(wr.drewN nq).heap.size:=aq;have:(wr.drewN nq).χ (w.heap.size+1) 1=_:=M;have:(wr.drewN nq).χ D (d*3)=_:=q;have:(wr.drewN nq).χ D (d*3+1)=_:=r;have:(wr.drewN nq).χ D (d*3+2)=_:=A;have:(wr.drewN nq).χ R 0=_:=z;have:(wr.drewN nq).χ j (k*3)=_:=K;have aR:(wr.drewN nq).χ j (k*3+1)=_:=I;have a1:(wr.drewN nq).χ j (k*3+2)=_:=E;clear i M q r A z K I E;generalize wr.drewN nq=W5 at*;go_wp2_with (first|(at_builtin;refine YX _ rfl (.tmp 66) (.tmp 72) 22 rfl Bl 89 U _ 3 40 A2 V Q c o rfl (by decide) _ _ _ rfl (Yz (H.pV) _) (η _ 0) 1 1 (fP gk) rfl rfl (gX _ _ (fP gk)) (uB gk) (by unfold maxLen;omega) (by omega) (by rw[X_];omega) ?_;intro vc wc s F Y;obtain⟨gc,aO,rfl,aN,aZ⟩:=dv s (by omega);have t:=(YZ _ _ _).trans F;clear F Y)|go_in)
    go_roundw
    case rel=>exact⟨d+1,true,_,n++[gk],rfl,rfl,by go_num,P,λe=>(by cases e),H.push t s⟩
    simp only[aV];omega
   |false=>
    have aM:=bd rfl;by_cases S:a.aL<b[d].aL
    ·have P:=m.vL L S aM;have:Op.bytesLess a.aL b[d].aL=true:=by rw[Ca];simpa using S
     generalize Z:b[d]=gk at*;have bb:=aC Z;clear m T HP S Z;go_wp2
     go_quiet (fail)
     have H:=i.aD (Below.drewN (X5 _ wr) nq);have:Bl<=(wr.drewN nq).heap.size:=aq;have:(wr.drewN nq).χ (w.heap.size+1) 1=_:=M;have:(wr.drewN nq).χ D (d*3)=_:=q;have:(wr.drewN nq).χ D (d*3+1)=_:=r;have:(wr.drewN nq).χ D (d*3+2)=_:=A;have:(wr.drewN nq).χ R 0=_:=z;have:(wr.drewN nq).χ j (k*3)=_:=K;have aR:(wr.drewN nq).χ j (k*3+1)=_:=I;have a1:(wr.drewN nq).χ j (k*3+2)=_:=E;clear i M q r A z K I E;generalize wr.drewN nq=W5 at*;go_wp2_with (first|(at_builtin;refine YX _ rfl (.tmp 56) (.tmp 64) 22 rfl Bl 89 U _ 3 40 A2 V Q c o rfl (by decide) _ _ _ rfl (Yz (H.pV) _) (η _ 0) 1 1 (fP a) rfl rfl (gX _ _ (fP a)) (uB a) (by unfold maxLen;omega) (by omega) (by rw[X_];omega) ?_;intro vq wq ar a5 a';obtain⟨gq,bz,rfl,bn,br⟩:=dv ar (by omega);have bl:=(YZ _ _ _).trans a5;clear a5 a';have ag:=H.push (f:=a) bl ar;have⟨z1,r0,r1,r2⟩:=ag.U3 d L bb;have:=ag.size)|(at_builtin;refine YX _ rfl (.tmp 66) (.tmp 72) 22 rfl Bl 89 U _ 3 40 A2 V Q c o rfl (by decide) _ (n.length+1) _ rfl (Yz (T2 ag.pV (by simp)) _) (η _ 0) 1 1 (fP gk) rfl rfl (gX _ _ (fP gk)) (uB gk) (by unfold maxLen;omega) (by omega) (by rw[X_];omega) ?_;intro vc wc s F Y;obtain⟨gc,aO,rfl,aN,aZ⟩:=dv s (by omega);have t:=(YZ _ _ _).trans F;clear F Y)|go_in)
     go_roundw
     case rel=>exact⟨d+1,true,_,n++[a]++[gk],rfl,rfl,by go_num,P,λe=>(by cases e),ag.push t (by rw[show (n++[a]).length=n.length+1 from by simp];exact s)⟩
     simp only[aV];omega
    have P:=m.on L S aM;have:Op.bytesLess a.aL b[d].aL=false:=by rw[Ca];simpa using S
    generalize Z:b[d]=gk at*;clear m T HP S;go_wp2
    go_quiet (fail)
    have H:=i.aD (Below.drewN (X5 _ wr) nq);have:Bl<=(wr.drewN nq).heap.size:=aq;have:(wr.drewN nq).χ (w.heap.size+1) 1=_:=M;have:(wr.drewN nq).χ D (d*3)=_:=q;have:(wr.drewN nq).χ D (d*3+1)=_:=r;have:(wr.drewN nq).χ D (d*3+2)=_:=A;have:(wr.drewN nq).χ R 0=_:=z;have:(wr.drewN nq).χ j (k*3)=_:=K;have aR:(wr.drewN nq).χ j (k*3+1)=_:=I;have a1:(wr.drewN nq).χ j (k*3+2)=_:=E;clear i M q r A z K I E;generalize wr.drewN nq=W5 at*;go_wp2_with (first|(at_builtin;refine YX _ rfl (.tmp 66) (.tmp 72) 22 rfl Bl 89 U _ 3 40 A2 V Q c o rfl (by decide) _ _ _ rfl (Yz (H.pV) _) (η _ 0) 1 1 (fP gk) rfl rfl (gX _ _ (fP gk)) (uB gk) (by unfold maxLen;omega) (by omega) (by rw[X_];omega) ?_;intro vc wc s F Y;obtain⟨gc,aO,rfl,aN,aZ⟩:=dv s (by omega);have t:=(YZ _ _ _).trans F;clear F Y)|go_in)
    go_roundw
    case rel=>exact⟨d+1,false,_,n++[gk],rfl,rfl,by go_num,P,λ_=>(by simp;omega),H.push t s⟩
    simp only[aV];omega
  cases J with
  |true=>
   have HD:=aC (m.W6 L);have bi:=i.done;clear m;go_wp2
   go_roundw
   case rel=>exact⟨k+1,_,by go_num,by omega,by rw[a6.u,HD.u];exact bi⟩
   simp only[aV];omega
  |false=>
   have HD:=aC (m.WK L);clear m;go_wp2_with (first|(at_builtin;refine YX _ rfl (.tmp 76) (.tmp 84) 22 rfl Bl 89 U _ 3 40 A2 V Q c o rfl (by decide) _ _ _ rfl (Yz (i.pV) _) (η _ 0) 1 1 (fP a) rfl rfl (gX _ _ (fP a)) (uB a) (by unfold maxLen;omega) (by omega) (by rw[X_];omega) ?_;intro ve we aB a4 bg;obtain⟨ge,bt,rfl,bh,bv⟩:=dv aB (by omega);have a8:=(YZ _ _ _).trans a4;clear a4 bg;have aA:=i.push (f:=a) a8 aB;have z1:=aA.kg.df.cell 1 (by simp);have:=aA.kg.df.frozen 1;simp only[X6,X7]at z1)|go_in)
   go_roundw
   case rel=>exact⟨k+1,_,by go_num,by omega,by rw[a6.u,HD.u];exact aA.done⟩
   simp only[aV];omega
 have ao:X.aW.take k=X.aW:=YF (by omega);rw[ao]at g;have b0:=g.df.cell 0 (by simp);have b1:=g.df.cell 1 (by simp);have J:=g.df.cell 2 (by simp);have b3:=g.df.cell 3 (by simp);have r0:=g.cS.cell 0 (by simp);have r1:=g.cS.cell 1 (by simp);have r2:=g.cS.cell 2 (by simp);have r3:=g.cS.cell 3 (by simp);simp only[X6,X7]at b0 b1 J b3 r0 r1 r2 r3;have:=g.cS.frozen 0;have:=g.cS.frozen 1;have:=g.cS.frozen 2;have:=g.cS.frozen 3;clear ao ah aw an aG ai;go_wp2
 have O:=(((g.cS.set 0 (.slice C y x)).set 1 (.slice G (eB X.aW).length cv)).set 2 (ι X.exit)).set 3 (ι X.aQ);have o0:=O.cell 0 (by simp);have o1:=O.cell 1 (by simp);have o2:=O.cell 2 (by simp);have o3:=O.cell 3 (by simp);simp only[Zd,Y0,X6,X7]at o0 o1 o2 o3;have aS:=cQ g.aW (N:=w.heap.size) (by omega);refine Yw (v:=.agg #[.slice C y x,.slice G (eB X.aW).length cv,ι X.exit,ι X.aQ]) ?_ rfl ⟨⟨_,rfl,cP (cP (cP (cP g.aW aS _ _) aS _ _) aS _ _) aS _ _⟩,(((g.aP.setCell (p:=η w.heap.size 0) ax _).setCell (p:=η w.heap.size 1) ax _).setCell (p:=η w.heap.size 2) ax _).setCell (p:=η w.heap.size 3) ax _⟩;simp[results,results50,go_sem,o0,o1,o2,o3]
def Tryz.I4:(Tryz.prog.info? 4).map (λd=>(d.zero,d.size,d.bytes))=some (some (.bool false),1,1):=by kernel_rfl
def Tryz.JY:(Tryz.prog.info? 3).map (λd=>(d.zero,d.size,d.bytes))=some (some (ι 0),1,8):=by kernel_rfl
open Shelf
def Rc(a:fY)(m b:Nat)(s:aA)(w:ay)(g:s.size<=8388608):
 Calls prog 81 #[.agg #[.slice a m b,.string s]] w λe f=>(∃d:Bool,e=.returned (.bool d)/\(d=true↔Pl.Spec s.data.toList m 0 0 (λ_=>none)))/\μ w f:=
 Zm.1 (SU a m b s w g)
def IP(h:Pl.load c=some (ss,k)):k.length<=c.length/\ss.length<=1000:=by
 unfold Pl.load at h;split at h
 ·rename_i d;have:=Bp _ _ _ h;simp only[Zu]at this;omega
 cases h
structure RT(s:aj)(w:ay)(e:Ending)(w':ay):Prop where
 cS:(¬k_ s/\e=.returned (.tuple #[.agg #[ς,.string ⟨#[]⟩],ι 9]))\/
  ∃ss c b,Pl.load s=some (ss,c)/\Pl.Spec c ss.length 0 0 (λ_=>none)/\e=.returned (.tuple #[.agg #[ξ b ss.length ss.length,.string ⟨c.toArray⟩],ι 0])/\aF w' b 9 (ss.map aK)/\w.heap.size<=b
 aP:μ w w'
def Jc(l:hU)(w:ay)(C:l.length<=8388608):
 Calls prog 59 #[σ l] w λe T=>RT l w e T:=by
 have s:=λw=>P_ l w C;have P:=aC C;clear C;go_in;go_wp2_with fail
 refine(s _).mono ?_;rintro e r⟨⟨M,rfl⟩|⟨ss,c,b,E,rfl,N,O⟩,i⟩
 ·have D:Hid (¬k_ l):=by
   rintro⟨x,n,_⟩;rw[M]at n;cases n
  have d:=(aF.bq w 120 [ς,ε]).aD i;have k:=ak w (.cells #[ς,ε] 120);have z:=k.tr i;have A:=d.cell 0 (by simp);have B:=d.cell 1 (by simp);have V:=d.frozen 0;have a:=d.frozen 1;have R:=d.lt;simp only[X6,X7]at A B;clear k i M s;go_wp2_with fail
  have g:=((d.set 0 (ς)).set 1 (ε)).alloc (.cells #[ς,ε] 120);have h:=g.cell 0 (by simp);have f:=g.cell 1 (by simp);simp only[Zd,Y0,X6,X7]at h f;refine Yw (v:=.tuple #[.agg #[ς,ε],ι 9]) ?_ rfl ⟨.inl ⟨D.u,rfl⟩,((z.setCell (p:=η w.heap.size 0) ax _).setCell (p:=η w.heap.size 1) ax _).alloc (by simp[World.setCell];omega) _⟩;simp[results,results59,go_sem,h,f]
 have W:=IP E;have J:(⟨c.toArray⟩:aA).size<=8388608:=by rw[ea];have:=P.u;omega
 have F:=λw=>Rc (some (η b 0)) ss.length ss.length ⟨c.toArray⟩ w J;rw[qm]at F;have d:=(aF.bq w 120 [ς,ε]).aD i;have k:=ak w (.cells #[ς,ε] 120);have z:=k.tr i;have Y:=N;have G:=aC E;have R:=d.lt;clear k i N E J s;go_wp2_with fail
 refine(F _).mono ?_;rintro e X⟨⟨S,rfl,q⟩,m⟩;have j:=(d.alloc (.cells #[ξ b ss.length ss.length,σ c] 120)).aD m;have y:=(aF.bq r 120 [ξ b ss.length ss.length,σ c]).aD m;have I:=(Y.alloc (.cells #[ξ b ss.length ss.length,σ c] 120)).aD m;have H:=z.alloc (by omega) (.cells #[ξ b ss.length ss.length,σ c] 120);have L:=H.tr m;have A:=j.cell 0 (by simp);have B:=j.cell 1 (by simp);have V:=j.frozen 0;have a:=j.frozen 1;have U:=y.cell 0 (by simp);have o:=y.cell 1 (by simp);simp only[X6,X7]at A B U o;have Q:w.heap.size<b:=by rw[X_]at O;omega
 clear y H m F O;cases S with
 |false=>
  have D:Hid (¬k_ l):=by rintro⟨x,n,t⟩;rw[G.u]at n;cases n;have:=q.2 t;cases this
  clear q;go_wp2_with fail
  have g:=(j.set 0 (ς)).set 1 (ε);have h:=g.cell 0 (by simp);have f:=g.cell 1 (by simp);simp only[Zd,Y0,X6,X7]at h f;refine Yw (v:=.tuple #[.agg #[ς,ε],ι 9]) ?_ rfl ⟨.inl ⟨D.u,rfl⟩,(L.setCell (p:=η w.heap.size 0) ax _).setCell (p:=η w.heap.size 1) ax _⟩;simp[results,results59,go_sem,h,f]
 |true=>
  have K:=q.1 rfl;clear q;go_wp2_with fail
  have g:=(j.set 0 (ξ b ss.length ss.length)).set 1 (σ c);have h:=g.cell 0 (by simp);have f:=g.cell 1 (by simp);simp only[Zd,Y0,X6,X7]at h f;refine Yw (v:=.tuple #[.agg #[ξ b ss.length ss.length,σ c],ι 0]) ?_ rfl
   ⟨.inr ⟨ss,c,b,G.u,K,rfl,(I.dI (by omega) _ _).dI (by omega) _ _,by omega⟩,(L.setCell (p:=η w.heap.size 0) ax _).setCell (p:=η w.heap.size 1) ax _⟩
  simp[results,results59,go_sem,h,f]
def UY(z:Int)(w:ay):Calls prog 17 #[ι z] w λe d=>e=.returned (ι z)/\w=d:=by
 go_in;go_wp2
 all_goals go_ret
 all_goals exact⟨rfl,rfl⟩
def sk:az:=.agg #[ς,ς,ι 0,ι 0]
theorem Fit.DD:∀(g:fy) {d:fy},Fit ss d->(∀f∈g,f.aL∈ss)->Fit ss (g.foldl Pl.bA d)
 |[],_,h,_=>h
 |f::i,d,h,e=>by rw[YP];exact Fit.DD i (h.add (e f (by simp))) (λj k=>e j (by simp[k]))
def kY(h:f.ownsRow b n A j E p)(d:i <=b):f.ownsRow i n A j E p:=by
 refine⟨h.1,?_⟩;obtain c|⟨g,e,a,c,l,k⟩:=h.2
 ·exact .inl c
 exact .inr ⟨g,e,a,c,by omega,k⟩
def dR(h:f.ownsRow b i n j A p):∃a cap,j=.slice a A cap:=by
 obtain⟨d,B⟩|⟨v,cap,g,d,_⟩:=h.2
 ·exact⟨none,0,by rw[d,B]⟩
 exact⟨_,cap,d⟩
def lI{w:ay}(h:w.ownsRow b n 1 (ξ i A E) A p)(d:Nat)(q:d<p.length):w.cell? ⟨i,d,none⟩=some p[d]:=by
 have y:=h.1;obtain⟨f,_⟩|⟨x,s,g,f,r,k,u,v,z,j⟩:=h.2
 ·cases f
 cases f;have m:g[d]?=some p[d]:=by
  have:(g.toList.take (A*1))[d]?=some p[d]:=by rw[j];simp[q]
  rw[NM (by omega)]at this;simpa using this
 simp[World.cell?,k,m]
def wrap_small{x:Int}(e:0<=x)(d:x<=4611686018427387904):IntKind.i64.wrap x=x:=by simp[IntKind.wrap,IntKind.bits,IntKind.signed];omega
def jx:(⟨b,0,none⟩:Addr).add i=⟨b,i,none⟩:=by unfold Addr.add;split<;>simp_all
def B_(h:f.ownsRow b n 1 (ξ i A E) A p):A<=E:=by
 obtain⟨d,_⟩|⟨m,j,B,d,g,k,r,s,q,u⟩:=h.2
 ·cases d
 cases d;omega



end


