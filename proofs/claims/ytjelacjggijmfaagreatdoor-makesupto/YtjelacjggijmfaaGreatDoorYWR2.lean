/- . -/
import Derived.Test.YtjelacjggijmfaaGreatDoorYWP3
set_option linter.all false
set_option maxHeartbeats 4000000
set_option maxRecDepth 100000
namespace Go.Proofs.YtjelacjggijmfaaGreatDoor
open Pl Mk Cp Proofs.Tryz
open RowKit MapKept ChangeMaps Maps
section
variable {a:Nat}
def lZ(a:fv):dr:=a.zipIdx.map λx=>(x.1,ι x.2)
structure ed(W:ay)(B wb nb:Nat)(w:Wr)(vs vc:az):Prop where
 row:aF W wb 281 [.map (some nb),vs,vc,.bool w.lK]
 pf:bF W nb (lZ w.a_)
 a_:W.ownsRow B 9 1 vs w.a_.length (w.a_.map aK)
 bk:W.ownsRow B 5 1 vc w.bk.length (Lib.byteCells w.bk)
 wB:wb<B
 nB:nb<B
def Tryz.xm:(Tryz.prog.info? 5).map (λa=>(a.zero,a.size,a.bytes))=some (some (.int .u8 0),1,1):=by kernel_rfl
def Ve(w:ay):(Instr.makeSlice 126 (ι 0) (ι 0)).run prog w=.ok (ξ w.heap.size 0 0) (w.alloc (.cells #[] 5)):=by have h:=adG (P:=prog) 126 5 (.int .u8 0) 1 YI Tryz.xm rfl .i64 .i64 0 (by omega) (by omega) w;rw[yF]at h;exact h
def Vt(w:ay):(Instr.makeSlice 126 (ι 1) (ι 1)).run prog w=.ok (ξ w.heap.size 1 1) (w.alloc (.cells #[.int .u8 0] 5)):=by have h:=adG (P:=prog) 126 5 (.int .u8 0) 1 YI Tryz.xm rfl .i64 .i64 1 (by omega) (by omega) w;rw[yF]at h;exact h
def Vn(w:ay):(Instr.makeSlice 126 (ι 2) (ι 2)).run prog w=.ok (ξ w.heap.size 2 2) (w.alloc (.cells #[.int .u8 0,.int .u8 0] 5)):=by have h:=adG (P:=prog) 126 5 (.int .u8 0) 1 YI Tryz.xm rfl .i64 .i64 2 (by omega) (by omega) w;rw[yF]at h;exact h
def Xn:((a:Int) !=0)=Cp.iC a 0:=by unfold Cp.iC;rw[ZE];simp;omega
def Xm:((a:Int)/256 !=0)=Cp.iC a 1:=by unfold Cp.iC;rw[ZE];simp;omega
def Xh:((a:Int)/65536 !=0)=Cp.iC a 2:=by unfold Cp.iC;rw[ZE];simp;omega
def uR{W:ay}{j i d:az}{f:Bool}(h:aF W a 281 [j,i,d,.bool f])(b:Bool)(c:f'):
 aF ((W.ψ a 3 (.bool b)).alloc (.cells c.toArray 5)) W.heap.size 5 c/\aF ((W.ψ a 3 (.bool b)).alloc (.cells c.toArray 5)) a 281 [j,i,d,.bool b]/\Tn (λk=>k=a) W ((W.ψ a 3 (.bool b)).alloc (.cells c.toArray 5)):=by
 have g:(W.ψ a 3 (.bool b)).heap.size=W.heap.size:=by simp
 have e:=aF.bq (W.ψ a 3 (.bool b)) 5 c;rw[g]at e;exact⟨e,(h.set 3 (.bool b)).alloc _,(Tn.set (p:=λk=>k=a) W (η a 3) _ rfl).trans (Tn.aD (ak _ _))⟩
def Ww:Lib.byteCells (du a 0)=[]:=by unfold Lib.byteCells du;simp
def O8(a n:Nat)(m l j:az)(f:Bool)(W:ay)(h:aF W a 281 [m,l,j,.bool f])(o:n<2147483648):
 Calls prog 148 #[π a,ι n,ι 0] W λe d=>∃N,e=.returned (ξ N 0 0)/\aF d N 5 (Lib.byteCells (du n 0))/\aF d a 281 [m,l,j,.bool (f||Cp.iC n 0)]/\W.heap.size<=N/\Tn (λk=>k=a) W d:=by
 have:=h.cell? (i:=3) rfl;have:=h.frozen 3;have:=Ve
 rw[Ww];cases f with
 |false=>
  go_in;go_wp2
  refine qa 1 ?_;rw[Z3];go_wp2
  go_ret;have⟨b,g,c⟩:=uR h ((n:Int) !=0) [];exact⟨W.heap.size,rfl,b,by rw[l8,<-Xn];exact g,X0 _,c⟩
 |true=>
  go_in;go_wp2
  refine qa 1 ?_;rw[Z3];go_wp2
  go_ret;have⟨b,g,c⟩:=uR h true [];exact⟨W.heap.size,rfl,b,by rw[ae8];exact g,X0 _,c⟩
def Wz:Lib.byteCells (du a 1)=[.int .u8 ((a:Int) % 256)]:=by unfold Lib.byteCells du;simp
def OS(a n:Nat)(m l j:az)(f:Bool)(W:ay)(h:aF W a 281 [m,l,j,.bool f])(o:n<2147483648):
 Calls prog 148 #[π a,ι n,ι 1] W λe d=>∃N,e=.returned (ξ N 1 1)/\aF d N 5 (Lib.byteCells (du n 1))/\aF d a 281 [m,l,j,.bool (f||Cp.iC n 1)]/\W.heap.size<=N/\Tn (λk=>k=a) W d:=by
 have:=h.cell? (i:=3) rfl;have:=h.frozen 3;have:=Vt
 rw[Wz];cases f with
 |false=>
  go_in;go_wp2
  refine qa 2 ?_;rw[Z3];go_wp2
  rw[Z3];go_wp2
  go_ret;have⟨b,g,c⟩:=uR h ((n:Int)/256 !=0) [.int .u8 ((n:Int) % 256)];exact⟨W.heap.size,rfl,b,by rw[l8,<-Xm];exact g,X0 _,c⟩
 |true=>
  go_in;go_wp2
  refine qa 2 ?_;rw[Z3];go_wp2
  rw[Z3];go_wp2
  go_ret;have⟨b,g,c⟩:=uR h true [.int .u8 ((n:Int) % 256)];exact⟨W.heap.size,rfl,b,by rw[ae8];exact g,X0 _,c⟩
def WL:Lib.byteCells (du a 2)=[.int .u8 ((a:Int)/256 % 256),.int .u8 ((a:Int) % 256)]:=by unfold Lib.byteCells du;simp
def ON(a n:Nat)(m l j:az)(f:Bool)(W:ay)(h:aF W a 281 [m,l,j,.bool f])(o:n<2147483648):
 Calls prog 148 #[π a,ι n,ι 2] W λe d=>∃N,e=.returned (ξ N 2 2)/\aF d N 5 (Lib.byteCells (du n 2))/\aF d a 281 [m,l,j,.bool (f||Cp.iC n 2)]/\W.heap.size<=N/\Tn (λk=>k=a) W d:=by
 have:=h.cell? (i:=3) rfl;have:=h.frozen 3;have:=Vn
 rw[WL];cases f with
 |false=>
  go_in;go_wp2
  refine qa 3 ?_;rw[Z3];go_wp2
  rw[Z3];go_wp2
  rw[Z3];go_wp2
  go_ret;have⟨b,g,c⟩:=uR h ((n:Int)/65536 !=0) [.int .u8 ((n:Int)/256 % 256),.int .u8 ((n:Int) % 256)];exact⟨W.heap.size,rfl,b,by rw[l8,<-Xh];exact g,X0 _,c⟩
 |true=>
  go_in;go_wp2
  refine qa 3 ?_;rw[Z3];go_wp2
  rw[Z3];go_wp2
  rw[Z3];go_wp2
  go_ret;have⟨b,g,c⟩:=uR h true [.int .u8 ((n:Int)/256 % 256),.int .u8 ((n:Int) % 256)];exact⟨W.heap.size,rfl,b,by rw[ae8];exact g,X0 _,c⟩
def yi(a n k:Nat)(g:k<=2)(j i b:az)(f:Bool)(W:ay)(h:aF W a 281 [j,i,b,.bool f])(d:n<2147483648):
 Calls prog 148 #[π a,ι n,ι k] W λe c=>∃N,e=.returned (ξ N k k)/\aF c N 5 (Lib.byteCells (du n k))/\aF c a 281 [j,i,b,.bool (f||Cp.iC n k)]/\W.heap.size<=N/\Tn (λk=>k=a) W c:=by
 match k,g with
 |0,_=>exact O8 a n j i b f W h d
 |1,_=>exact OS a n j i b f W h d
 |2,_=>exact ON a n j i b f W h d
end
variable {wb nb M k:Nat}{vs vc n ab o m c j:az}{W r p d g:ay}{a:Wr}{b:Bool}{i l:f'}{e:aj}
theorem E5:∀(a:dr) (k:aj) (v:az),cG a k=none->fh a k v=a++[(k,v)]
 |[],_,_,_=>rfl
 |x::c,k,v,h=>by
  unfold cG at h;simp only[ac0,Zt]at h;cases b:(x.1==k) with
  |true=>rw[b]at h;simp at h
  |false=>rw[b]at h;rw[fh,b];show x::fh c k v=_;rw[E5 c k v (by unfold cG;simp only[ac0];exact h)];rfl
theorem IK(s:aj):∀(b:fv) (n:Nat),cG ((b.zipIdx n).map λx=>(x.1,ι x.2)) s=(b.findIdx? (λx=>x==s)).map λc=> ι ((n+c:Nat):Int)
 |[],_=>rfl
 |x::a,n=>by
  rw[List.zipIdx_cons,YE,List.findIdx?_cons];unfold cG;rw[Zt];cases d:(x==s) with
  |true=>simp
  |false=>
   have:=IK s a (n+1);unfold cG at this;simp only[YN,Z4];rw[this];cases List.findIdx? (λx=>x==s) a with
   |none=>rfl|some c=>simp;omega
def Se(a:fv)(s:aj):cG (lZ a) s=(a.findIdx? (λx=>x==s)).map λb=> ι b:=by
 unfold lZ;rw[IK];cases List.findIdx? (λx=>x==s) a with
 |none=>rfl|some b=>simp
def RQ{a:fv}:lZ (a++[e])=lZ a++[(e,ι a.length)]:=by unfold lZ;rw[List.zipIdx_append,Yy];simp
structure fM(wb nb:Nat)(vs vc vs' vc':az)(W W':ay):Prop where
 tn:Tn (λk=>k=wb\/k=nb\/some k=vs.ownBlock\/some k=vc.ownBlock) W W'
 fs:pS W vs vs'
 fc:pS W vc vc'
section
def fM.refl(W:ay):fM wb nb vs vc vs vc W W:=⟨Tn.refl _ _,λ_ e=> .inl e,λ_ e=> .inl e⟩
def fM.trans(h:fM wb nb vs vc n ab W r)(a:fM wb nb n ab o m r p):fM wb nb vs vc o m W p:=by
 have d:=h.tn.size;refine⟨⟨a.tn.os.trans h.tn.os,a.tn.tape.trans h.tn.tape,a.tn.output.trans h.tn.output,Ye d a.tn.size,λk b c=>(a.tn.block k (by omega) (λe=>c ?_)).trans (h.tn.block k b c)⟩,λk b=>?_,λk b=>?_⟩
 ·rcases e with e|e|e|e
  ·exact .inl e
  ·exact .inr (.inl e)
  ·rcases h.fs k e.symm with f |f
   ·exact .inr (.inr (.inl f.symm))
   omega
  rcases h.fc k e.symm with f |f
  ·exact .inr (.inr (.inr f.symm))
  omega
 ·rcases a.fs k b with e|e
  ·exact h.fs k e
  exact .inr (by omega)
 rcases a.fc k b with e|e
 ·exact h.fc k e
 exact .inr (by omega)
end
variable {f:TypeId}
def nV{d:dr}(h:aF W wb f i)(c:bF W nb d):wb≠nb:=λe=>by have⟨g,b,a,_⟩:=c;subst e;unfold aF at h;rw[h]at a;cases a
def mF{p:Nat->Prop}(h:W.mapTurned d wb)(a:p wb):Tn p W d:=by obtain⟨g,l,m,f,i,rfl⟩:=h;refine⟨rfl,rfl,rfl,by simp[setBlock],λk j c=>?_⟩;have:k≠wb:=λe=>c (e▸a);simp[setBlock,Ne.symm this]
def ed.VH{s:aj}{l:Obj}(h:ed W wb nb M a vs vc)(F:cG (lZ a.a_) s=none)(n:bF g M (fh (lZ a.a_) s (ι a.a_.length)))(w:W.mapTurned g M)(i:(g.alloc l).grownBy d vs.ownBlock)(A:d.ownsRow wb 9 1 c (a.a_.length+1) (a.a_.map aK++[aK s]))(C:∀k,c.ownBlock=some k->vs.ownBlock=some k\/W.heap.size<=k):ed (d.ψ nb 1 c) wb nb M ⟨a.a_++[s],a.bk,a.lK⟩ c vc/\fM nb M vs vc c vc W (d.ψ nb 1 c):=by
 have v:=nV h.row h.pf;have j:=mF (p:=λk=>k=M) w rfl;have t:∀k,k<g.heap.size->(g.alloc l).heap[k]?=g.heap[k]?:=λk f=>Z0 g l k f;have H:(g.alloc l).heap.size=g.heap.size+1:=X_ _ _;have J:=j.size;have B:∀k,k<W.heap.size->k≠M->some k≠vs.ownBlock->d.heap[k]?=W.heap[k]?:=λk f p o=>(i.block k (by omega) o).trans ((t k (by omega)).trans (j.block k f p));have q:∀k,k≠nb->(d.ψ nb 1 c).heap[k]?=d.heap[k]?:=λk f=>Ys d (η nb 1) _ k f;have r:∀b,b<wb->some b≠vs.ownBlock:=λb x=>cQ h.a_ x;have y:aF d nb 281 [.map (some M),vs,vc,.bool a.lK]:=(B nb h.row.lt v (r nb h.wB)).trans h.row;rw[E5 _ _ _ F,<-RQ]at n;refine⟨⟨y.set 1 c,?_,?_,?_,h.wB,h.nB⟩,⟨⟨?_,?_,?_,?_,λk f m=>?_⟩,C,λ_ e=> .inl e⟩⟩
 ·refine n.lV ((q M (λe=>v e.symm)).trans ((i.block M ?_ (r M h.nB)).trans (t M n.lt)));have:=n.lt;omega
 ·have:d.ownsRow wb 9 1 c (a.a_++[s]).length ((a.a_++[s]).map aK):=by simpa using A
  exact cP this (cQ this h.wB) _ _
 ·refine bI h.bk (λk f=>?_);have D:=h.bk.lt k f;have z:some k≠vs.ownBlock:=λe=>by obtain⟨L,G,E⟩:=dZ h.bk k f;obtain⟨I,K,u⟩:=dZ h.a_ k e.symm;rw[E]at u;cases u
  have p:k≠nb:=by have:=h.wB;omega
  have o:k≠M:=by have:=h.nB;omega
  exact(q k p).trans (B k D.2 o z)
 ·exact i.os.trans j.os
 ·exact i.tape.trans j.tape
 ·exact i.output.trans j.output
 ·have:=i.size;simp;omega
 simp only[not_or]at m;exact(q k m.1).trans (B k f m.2.1 m.2.2.1)
def zY(B wb nb:Nat)(a:Wr)(vs vc:az)(s:aj)(W:ay)(h:ed W B wb nb a vs vc)(U:B<=W.heap.size)(Y:a.a_.length<=1048576):
 Calls prog 101 #[π wb,σ s] W λe r=>e=.returned (ι (a.bh s))/\∃z,ed r B wb nb (a.dd s) z vc/\fM wb nb vs vc z vc W r:=by
 have⟨H,Q,C,F,I⟩:=Y1 Tryz.kZ;have⟨Z,T,O⟩:=fp h.a_;subst O;have:=h.row.cell? (i:=0) rfl;have:=h.row.cell? (i:=1) rfl;have y:∀w,(zeroValue 3).run prog w=.ok (ι 0) w:=λw=>by kernel_rfl
 have f:=Se a.a_ s;have b:=aC h;cases d:a.a_.findIdx? (λx=>x==s) with
 |some g=>
  have q:a.bh s=g:=by unfold Wr.bh;rw[d];rfl
  have n:a.dd s=a:=by unfold Wr.dd;rw[d]
  rw[d]at f;rw[q,n];have j:cG (lZ a.a_) s=some (ι g):=f;go_in;go_wp2_with (at_lookup;refine nh _ rfl _ _ 179 rfl 9 3 rV Yj (ι 0) (y _) nb (lZ a.a_) rfl b.pf s rfl _ j ?_)
  go_ret;exact⟨rfl,_,b,fM.refl _⟩
 |none=>
  have q:a.bh s=a.a_.length:=by unfold Wr.bh;rw[d];rfl
  have n:a.dd s=⟨a.a_++[s],a.bk,a.lK⟩:=by unfold Wr.dd;rw[d]
  rw[d]at f;rw[q,n];have j:cG (lZ a.a_) s=none:=f;have M:=h.wB;have:=h.nB;have K:(lZ a.a_).length<maxLen:=by unfold lZ maxLen;rw[Yk,List.length_zipIdx];omega
  go_in;go_wp2_with (first|(at_lookup;refine nj _ rfl _ _ 179 rfl 9 3 rV Yj (ι 0) (y _) nb (lZ a.a_) rfl b.pf s rfl j ?_)|(at_mapUpdate;refine q_ _ rfl _ _ _ 179 rfl 9 3 rV Yj nb (lZ a.a_) rfl b.pf K s rfl _ rfl ?_;intro A v i;have p:=b.row.tn (mF (p:=λk=>k=nb) i rfl) (nV h.row h.pf);have:=p.cell? (i:=1) rfl;have:=(mF (p:=λk=>k=nb) i rfl).size;have L:=aC (bI b.a_ (λk c=>(mF (p:=λk=>k=nb) i rfl).block k (b.a_.lt k c).2 (by have:=(b.a_.lt k c).1;omega)));have J:=aC p;have E:=aC v;have N:=aC i)|(at_builtin;refine YS _ rfl (.tmp 33) (.tmp 35) 30 rfl B 9 H (ε) 1 16 YU Q C F I rfl (by decide) _ a.a_.length _ rfl (Yz L _) (η _ 0) 1 1 [σ s] rfl rfl (gX _ _ [_]) (uI) (by unfold maxLen;omega) (by omega) (by rw[X_];omega) ?_;intro u V o m G t;obtain⟨S,X,rfl,-,-⟩:=dv o (by omega);have l:=J.grown ((YZ A _ _).trans m) (cQ b.a_ M);have D:=l.cell? (i:=1) rfl;have R:=l.frozen 1;have P:=aC (b.VH (s:=s) j E N m o (λk c=>by obtain e|e:=t;exact .inl (e▸c);(rw [e]at c;cases c;exact .inr (by rw[X_];omega))))))
  go_ret;exact⟨rfl,_,P⟩
def qZ{i:Program}{o:kt}{b:Oper}{a:Act}{K:Act->ay->Prop}{Q:Exit->Act->ay->Prop}{E:Prop}(A:b.guard=none)(s x:Operand)(j:TypeId)(B:b.op=Op.call {callee:=Callee.builtin Builtin.append,args:= #[s,x],argTypes:= #[j,j]})(w:Nat)(e:TypeId)(h:TypeInfo)(z:az)(size bytes:Nat)(G:i.underlying j=some (.slice e))(t:i.info? e=some h)(P:h.zero=some z)(F:h.size=size)(I:h.bytes=bytes)(V:z.cells.size=size)(H:0<size)(v:az)(n:Nat)(l:f')(R:a.eval s=v)(q:W.ownsRow w e size v n l)(k:Addr)(m c:Nat)(g:f')(S:a.eval x=.slice (some k) m c)(T:g.length=m*size)(X:∀p u,g[p]?=some u->W.cell? (k.add p)=some u)(M:∀u∈g,u.oneCell' =true)(r:n+m<=maxLen)(O:(n+m)*bytes<=140737488355328)(D:w<=W.heap.size)(J:∀d f,f.ownsRow w e size d (n+m) (l++g)->W.grownBy f v.ownBlock->(d.ownBlock=v.ownBlock\/d.ownBlock=some W.heap.size)->K (a.put b.dst d) f):
 if Region.wanted b (yielded o a.tmps)=true then Oper.wp i b a W K Q else E:=by
 have L:Region.wanted b (yielded o a.tmps)=true:=by simp[Region.wanted,A]
 rw[Yd L];have⟨d,f,N,y,U,_,C⟩:=aes (P:=i) W w j b.type e h z size bytes G t P F I V H v n l q k m c g T X M r O D;unfold Oper.wp;simp[execOp,B,resolve,invoke,builtin,R,S,N,Result.andThen];exact J d f y U C
def ed.Ks(h:ed W wb nb M a vs vc)(o:aF r nb 281 [.map (some M),vs,c,.bool b])(j:r.ownsRow wb 5 1 c e.length (Lib.byteCells e))(d:Tn (λk=>k=nb\/some k=vc.ownBlock) W r)(n:pS W vc c):ed r wb nb M ⟨a.a_,e,b⟩ vs c/\fM nb M vs vc vs c W r:=by
 refine⟨⟨o,h.pf.tn d (λf=>f.elim (λf=>(nV h.row h.pf) f.symm) (cQ h.bk h.nB)),bI h.a_ (λk g=>d.block k (h.a_.lt k g).2 (λf=>?_)),j,h.wB,h.nB⟩,d.mono (λk f=>f.elim .inl (λf=> .inr (.inr (.inr f)))),λ_ f=> .inl f,n⟩;obtain f|f:=f
 ·have:=(h.a_.lt k g).1;have:=h.wB;omega
 have⟨s,q,m⟩:=dZ h.bk k f.symm;have⟨t,u,i⟩:=dZ h.a_ k g;rw[m]at i;cases i
def ed.Cj{bs:aj}(h:ed W wb nb M a vs vc)(l:Tn (λk=>k=nb) W r)(n:aF r nb 281 [.map (some M),vs,vc,.bool b])(f:r.grownBy d vc.ownBlock)(j:d.ownsRow wb 5 1 c (a.bk.length+bs.length) (Lib.byteCells a.bk++Lib.byteCells bs))(i:∀k,c.ownBlock=some k->vc.ownBlock=some k\/W.heap.size<=k):
 ed (d.ψ nb 2 c) wb nb M ⟨a.a_,a.bk++bs,b⟩ vs c/\fM nb M vs vc vs c W (d.ψ nb 2 c):=by
 have g:d.ownsRow wb 5 1 c (a.bk++bs).length (Lib.byteCells (a.bk++bs)):=by rw[C',X4];exact j
 refine h.Ks ((n.grown f (cQ h.bk h.wB)).set 2 c) (cP g (cQ g h.wB) _ _) ?_ i;exact((l.mono (λk e=> .inl e)).trans (Tn.grown f (λk e=> .inr e.symm))).trans (Tn.set d (η nb 2) _ (.inl rfl))
def iA(b a:Nat):Nat:=if a=0 then iN b else jw b
def nF(b:Wr)(op:Nat)(c:gb):Nat->Wr
 |0=>b.op op
 |a+1=>(nF b op c a).put (c.getD a 0) (iA op a)
def w_(b a:Nat):iA b a<=2:=by
 unfold iA iN jw
 repeat' split
 all_goals omega
def jA(n k:Nat)(h:k<=2):(du n k).length=k:=by
 match k,h with
 |0,_=>rfl|1,_=>rfl|2,_=>rfl
theorem A5(b:Wr)(d:Nat)(c:gb):∀a,(nF b d c a).bk.length<=b.bk.length+1+2*a
 |0=>by show(b.bk++[UInt8.ofNat d]).length<=_;simp
 |a+1=>by have:=A5 b d c a;show((nF b d c a).bk++du _ _).length<=_;rw[X4,jA _ _ (w_ d a)];have:=w_ d a;omega
def uC:∀u∈Lib.byteCells e,u.oneCell' =true:=λu a=>by unfold Lib.byteCells at a;obtain⟨x,_,rfl⟩:=YC.1 a;rfl
def V_{n:Int}:∀u∈[Value.int .u8 n],u.oneCell' =true:=λu a=>by simp only[Yc]at a;subst a;rfl
def Gm{u:TypeId}(h:aF W wb f l)(c:W.ownsRow nb u M vs k i)(d:f≠u):some wb≠vs.ownBlock:=λe=>by have⟨j,g,a⟩:=dZ c wb e.symm;unfold aF at h;rw[h]at a;cases a;exact d rfl
def aF.kn(h:aF W k f i)(d:ed W wb nb M a vs vc)(b:fM nb M vs vc c j W r)(m:f≠281)(g:f≠9)(l:f≠5):aF r k f i:=
 h.tn b.tn (λe=>by
  obtain e|e|e|e:=e
  ·subst e;have:=d.row;unfold aF at h this;rw[h]at this;cases this;exact m rfl
  ·exact nV h d.pf e
  ·exact Gm h d.a_ g e
  exact Gm h d.bk l e)
def ed.aD{B wb nb:Nat}{p:Wr}{vs vc:az}(h:ed W B wb nb p vs vc)(a:μ W r):ed r B wb nb p vs vc:=⟨h.row.aD a,h.pf.aD a,bI h.a_ (λk b=>a.block k (h.a_.lt k b).2),bI h.bk (λk b=>a.block k (h.bk.lt k b).2),h.wB,h.nB⟩
def fM.aD{wb nb:Nat}{vs vc:az}(a:μ W r):fM wb nb vs vc vs vc W r:=⟨Tn.aD a,λ_ e=> .inl e,λ_ e=> .inl e⟩
structure K6(W:ay)(B wb nb:Nat)(p:Wr)(vs vc:az)(op:Nat)(os:gb)(N i:Nat)(wr:ay):Prop where
 wm:∃vc',ed wr B wb nb (nF p op os i) vs vc' /\fM wb nb vs vc vs vc' W wr
 row:aF wr N 3 [ι (iN op),ι (jw op)]
def Ht(B wb nb:Nat)(d:Wr)(vs vc:az)(op:Nat)(c:gb)(a:fY)(cap G:Nat)(W:ay)(h:ed W B wb nb d vs vc)(hB:B<=W.heap.size)(ap:op<256)(ai:∀x∈c,x<2147483648)(aA:c.length<=2)(ha:0<c.length->a=some ⟨G,0,none⟩/\aF W G 3 (c.map λx:Nat=>ι x))(aG:d.bk.length<=1073741824):
 Calls prog 100 #[π wb,.int .u8 op,.slice a c.length cap] W λe W'=>e=.returned (.tuple #[])/\∃af,ed W' B wb nb (nF d op c 2) vs af/\fM wb nb vs vc vs af W W':=by
 unfold π;have⟨z,R,T,X,M⟩:=Y1 Tryz.xm;have⟨sa,sc,I⟩:=fp h.bk;subst I;have:=h.row.cell? (i:=2) rfl;have ac:=h.wB;have aq:(((UInt8.ofNat op).toNat:Nat):Int)=op:=by rw[abW];omega
 have v:=aC h;go_in;go_wp2_with (first|(go_at_call 149;refine (Ay op ap W).mono ?_;rintro e w1⟨rfl,rfl⟩)|(at_builtin;refine YS _ rfl (.tmp 22) (.tmp 24) 126 rfl B 5 z (.int .u8 0) 1 1 YI R T X M rfl (by decide) _ d.bk.length _ rfl (Yz v.bk _) (η _ 0) 1 1 [.int .u8 (op:Int)] rfl rfl (gX _ _ [_]) (V_) (by unfold maxLen;omega) (by omega) (by rw[X_];omega) ?_;intro v1 j aa U am ae;obtain⟨E,C,rfl,-,-⟩:=dv aa (by omega);have J:=v.row.grown ((YZ W _ _).trans U) (cQ v.bk ac);have av:=J.cell? (i:=2) rfl;have aj:=J.frozen 2;have HE:=aC (v.Cj (bs:=[UInt8.ofNat op]) (Tn.refl _ _) v.row ((YZ W _ _).trans U) (by unfold Lib.byteCells;simp only[YE,Z9,Yx];rw[aq];exact aa) (λk y=>by obtain e|e:=ae;exact .inl (e▸y);(rw [e]at y;cases y;exact .inr (by rw[X_];omega))))))
 have ag:(j.ψ wb 2 (ξ E (d.bk.length+1) C)).heap.size=j.heap.size:=by simp
 have ah:K6 W B wb nb d vs (.slice sa d.bk.length sc) op c j.heap.size 0 ((j.ψ wb 2 (ξ E (d.bk.length+1) C)).alloc (.cells #[ι (iN op),ι (jw op)] 3)):=by have hb:=(X5 _ (j.ψ wb 2 (ξ E (d.bk.length+1) C))).alloc ax (.cells #[ι (iN op),ι (jw op)] 3);have hr:=aF.bq (j.ψ wb 2 (ξ E (d.bk.length+1) C)) 3 [ι (iN op),ι (jw op)];rw[ag]at hr;exact⟨⟨_,HE.1.aD hb,HE.2.trans (fM.aD hb)⟩,hr⟩
 generalize ((j.ψ wb 2 (ξ E (d.bk.length+1) C)).alloc (.cells #[ι (iN op),ι (jw op)] 3))=W0 at*;generalize j.heap.size=N at*;go_loopw [32] (λQ wr=>∃b:Nat,Q=ι b/\b<=2/\K6 W B wb nb d vs (.slice sa d.bk.length sc) op c N b wr) (λQ _=>2-aV Q)
 case atStart=>exact⟨0,rfl,by omega,ah⟩
 obtain⟨b,rfl,aw,HR⟩:=hrel;have⟨ab,s,w⟩:=HR.wm;by_cases hi:b<2
 ·have:(b:Int)<2:=by omega
  have⟨ca,cc,I⟩:=fp s.bk;subst I;have:=A5 d op c b;have F:=w_ op b;have:wr.χ N b=some (ι (iA op b)):=by
   match b,hi with
   |0,_=>exact HR.row.cell? (i:=0) rfl
   |1,_=>exact HR.row.cell? (i:=1) rfl
  have ar:c.getD b 0<2147483648:=by
   rw[Yf];by_cases l:b<c.length
   ·rw[X9 l];exact (aC ai).u _ (Ym l)
   rw[Zf (by omega)];decide
  have K:b<c.length->a=some ⟨G,0,none⟩/\wr.χ G b=some (ι ((c.getD b 0:Nat):Int)):=λl=>by have⟨O,L⟩:=(aC ha).u (by omega);refine⟨O,(L.kn v w (by decide) (by decide) (by decide)).cell? ?_⟩;rw[Za,X9 l,Yf,X9 l];rfl
  have:=s.row.cell? (i:=2) rfl;have:=Ye hB w.tn.size;have CB:=aC (yi wb (c.getD b 0) (iA op b) F _ _ _ _ wr.drew s.row ar);have f:=aC s;generalize hn:c.getD b 0=n at*;generalize y:iA op b=k at*;by_cases l:b<c.length
  ·obtain⟨rfl,co⟩:=K l;have:(b:Int)<c.length:=by omega
   go_wp2
   go_region_law (first|(go_simp;go_at_call 148;refine CB.mono ?_;rintro e w3⟨S,rfl,A,t,Z,i⟩;have d2:=t.cell? (i:=2) rfl;have Y:=aC (bI f.bk (λq g=>i.block q (f.bk.lt q g).2 (by have:=(f.bk.lt q g).1;omega)));have H:=(Tn.aD (p:=λq=>q=wb) (X5 _ wr).drew).trans i;have:=i.size)|(refine qZ rfl (.tmp 49) (.tmp 53) 126 rfl B 5 z _ 1 1 YI R T X M rfl (by decide) _ (nF d op c b).bk.length _ (by rfl) Y (η S 0) k k (Lib.byteCells (du n k)) (by rfl) (by rw[ZJ,jA _ _ F];omega) (λal u P=>by rw[jx];exact A.cell? P) (uC) (by unfold maxLen;omega) (by omega) (by have V:wr.drew.heap.size=wr.heap.size:=rfl;omega) ?_;intro v4 w4 p m D;obtain⟨q3,q4,rfl⟩:=fp p;have r:=t.grown m (cQ f.bk ac);have O:=r.cell? (i:=2) rfl;have L:=r.frozen 2;have o:=f.Cj (bs:=du n k) H t m (by rw[jA _ _ F];exact p) (λq g=>by obtain e|e:=D;exact .inl (e▸g);(rw [e]at g;cases g;exact .inr (by have V:wr.drew.heap.size=wr.heap.size:=rfl;omega)))))
   all_goals go_wp2
   all_goals go_roundw
   all_goals first
    |(refine ⟨b+1,by go_num,by omega,⟨⟨_,?_,w.trans o.2⟩,HR.row.kn f o.2 (by decide) (by decide) (by decide)⟩⟩
      show ed _ B wb nb ((nF d op c b).put (c.getD b 0) (iA op b)) vs _;rw[hn,y];exact o.1)
    |(simp only[aV];omega)
  have au:n=0:=by rw[<-hn,Yf,Zf (by omega)];rfl
  have:¬(b:Int)<c.length:=by omega
  subst au;go_wp2
  go_region_law (first|(go_simp;go_at_call 148;refine CB.mono ?_;rintro e w3⟨S,rfl,A,t,Z,i⟩;have d2:=t.cell? (i:=2) rfl;have Y:=aC (bI f.bk (λq g=>i.block q (f.bk.lt q g).2 (by have:=(f.bk.lt q g).1;omega)));have H:=(Tn.aD (p:=λq=>q=wb) (X5 _ wr).drew).trans i;have:=i.size)|(refine qZ rfl (.tmp 49) (.tmp 53) 126 rfl B 5 z _ 1 1 YI R T X M rfl (by decide) _ (nF d op c b).bk.length _ (by rfl) Y (η S 0) k k (Lib.byteCells (du 0 k)) (by rfl) (by rw[ZJ,jA _ _ F];omega) (λal u P=>by rw[jx];exact A.cell? P) (uC) (by unfold maxLen;omega) (by omega) (by have V:wr.drew.heap.size=wr.heap.size:=rfl;omega) ?_;intro v4 w4 p m D;obtain⟨q3,q4,rfl⟩:=fp p;have r:=t.grown m (cQ f.bk ac);have O:=r.cell? (i:=2) rfl;have L:=r.frozen 2;have o:=f.Cj (bs:=du 0 k) H t m (by rw[jA _ _ F];exact p) (λq g=>by obtain e|e:=D;exact .inl (e▸g);(rw [e]at g;cases g;exact .inr (by have V:wr.drew.heap.size=wr.heap.size:=rfl;omega)))))
  all_goals go_wp2
  all_goals go_roundw
  all_goals first
   |(refine ⟨b+1,by go_num,by omega,⟨⟨_,?_,w.trans o.2⟩,HR.row.kn f o.2 (by decide) (by decide) (by decide)⟩⟩
     show ed _ B wb nb ((nF d op c b).put (c.getD b 0) (iA op b)) vs _;rw[hn,y];exact o.1)
   |(simp only[aV];omega)
 have ao:b=2:=by omega
 subst ao;have:¬((2:Nat):Int)<2:=by omega
 have f:=aC s;go_wp2
 go_end0
 exact⟨rfl,_,f,w⟩
