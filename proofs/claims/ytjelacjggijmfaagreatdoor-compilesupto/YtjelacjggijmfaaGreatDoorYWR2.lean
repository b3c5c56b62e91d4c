/- . -/
import Derived.Test.YtjelacjggijmfaaGreatDoorYWR1
import Derived.Test.YtjelacjggijmfaaGreatDoorYMP2
set_option maxHeartbeats 2000000
set_option maxRecDepth 100000
namespace Go.Proofs.YtjelacjggijmfaaGreatDoor
open Pl Mk Cp Proofs.Tryz
open RowKit MapKept ChangeMaps Maps
theorem Cd:∀(b:df) (k:ag) (v:ay),cJ b k=none->eK b k v=b++[(k,v)]
 |[],_,_,_=>rfl
 |x::c,k,v,h=>by
  unfold cJ at h;simp only[YJ,UT] at h;cases a:(x.1==k) with
  |true=>rw[a] at h;simp at h
  |false=>rw[a] at h;rw[eK,a];show x::eK c k v=_;rw[Cd c k v (by unfold cJ;simp only[YJ];exact h)];rfl
theorem FA (s:ag):∀(a:List ag) (n:Nat),cJ ((a.zipIdx n).map λx=>(x.1,Value.int .i64 x.2)) s=(a.findIdx? (λx=>x==s)).map λb=> .int .i64 ((n+b:Nat):Int)
 |[],_=>rfl
 |x::c,n=>by
  rw[List.zipIdx_cons,Ug,List.findIdx?_cons];unfold cJ;rw[UT];cases d:(x==s) with
  |true=>simp
  |false=>
   have:=FA s c (n+1);unfold cJ at this;simp only[Uj,Vk];rw[this];cases List.findIdx? (λx=>x==s) c with
   |none=>rfl|some b=>simp;omega
theorem Ot (a:List ag)(s:ag):cJ (kL a) s=(a.findIdx? (λx=>x==s)).map λb=> .int .i64 (b:Int):=by
 unfold kL;rw[FA];cases List.findIdx? (λx=>x==s) a with
 |none=>rfl|some b=>simp
theorem N4 (a:List ag)(s:ag):kL (a++[s])=kL a++[(s,.int .i64 (a.length:Int))]:=by unfold kL;rw[List.zipIdx_append,T'];simp
structure eY (wb nb:Nat)(vs vc vs' vc' :ay)(W W' :ax):Prop where
 tn:Tn (λk=>k=wb\/k=nb\/some k=vs.ownBlock\/some k=vc.ownBlock) W W'
 fs:Az W vs vs'
 fc:Az W vc vc'
section
variable {wb nb:Nat} {vs vc vs1 vc1 vs2 vc2:ay} {W W1 W2:ax}
theorem eY.refl (W:ax):eY wb nb vs vc vs vc W W:=⟨Tn.refl _ _,λ_ e=> .inl e,λ_ e=> .inl e⟩
theorem eY.trans (h:eY wb nb vs vc vs1 vc1 W W1)(a:eY wb nb vs1 vc1 vs2 vc2 W1 W2):eY wb nb vs vc vs2 vc2 W W2:=by
 have d:=h.tn.size;refine⟨⟨a.tn.os.trans h.tn.os,a.tn.tape.trans h.tn.tape,a.tn.output.trans h.tn.output,TT d a.tn.size,λk b c=>(a.tn.block k (by omega) (λe=>c ?_)).trans (h.tn.block k b c)⟩,λk b=> ?_,λk b=> ?_⟩
 ·rcases e with e|e|e|e
  ·exact .inl e
  ·exact .inr (.inl e)
  ·rcases h.fs k e.symm with e' |e'
   ·exact .inr (.inr (.inl e'.symm))
   ·omega
  ·rcases h.fc k e.symm with e' |e'
   ·exact .inr (.inr (.inr e'.symm))
   ·omega
 ·rcases a.fs k b with e|e
  ·exact h.fs k e
  ·exact .inr (by omega)
 ·rcases a.fc k b with e|e
  ·exact h.fc k e
  ·exact .inr (by omega)
end
theorem mA {W:ax}{b k:Nat}{f:TypeId}{vs:List ay}{c:df}(h:aG W b f vs)(d:bC W k c):b≠k:=λe=>by obtain⟨g,i,a,_⟩:=d;subst e;unfold aG at h;rw[h] at a;cases a
variable {d f:ax}
theorem lx {w:ax}{b:Nat}{p:Nat->Prop}(h:w.mapTurned d b)(a:p b):Tn p w d :=by obtain⟨i,l,m,j,f,rfl⟩:=h;refine⟨rfl,rfl,rfl,by simp[setBlock],λk g c=> ?_⟩;have:k≠b:=λe=>c (e▸a);simp[setBlock,Ne.symm this]
variable {c:Wr}{a:ay}
theorem dK.Re {W:ax}{B wb nb:Nat}{vs vc:ay}{s:ag}{l:Obj}(h:dK W B wb nb c vs vc)(F:cJ (kL c.aY) s=none)(m:bC f nb (eK (kL c.aY) s (.int .i64 (c.aY.length:Int))))(C:W.mapTurned f nb)(i:(f.alloc l).grownBy d vs.ownBlock)(z:d.ownsRow B 9 1 a (c.aY.length+1) (c.aY.map aK++[aK s]))(A:∀k,a.ownBlock=some k->vs.ownBlock=some k\/W.heap.size<=k):dK (d.setCell ⟨wb,1,none⟩ a) B wb nb ⟨c.aY++[s],c.bh,c.kr⟩ a vc/\eY wb nb vs vc a vc W (d.setCell ⟨wb,1,none⟩ a):=by
 have v:=mA h.row h.nK;have j:=lx (p:=λk=>k=nb) C rfl;have r:∀k,k<f.heap.size->(f.alloc l).heap[k]?=f.heap[k]?:=λk g=>VU f l k g;have L:(f.alloc l).heap.size=f.heap.size+1:=TM _ _;have K:=j.size;have key:∀k,k<W.heap.size->k≠nb->some k≠vs.ownBlock->d.heap[k]?=W.heap[k]?:=λk g p q=>(i.block k (by omega) q).trans ((r k (by omega)).trans (j.block k g p));have o:∀k,k≠wb->(d.setCell ⟨wb,1,none⟩ a).heap[k]?=d.heap[k]?:=λk g=>T5 d ⟨wb,1,none⟩ _ k g;have t:∀b,b<B->some b≠vs.ownBlock:=λb D=>dD h.aY D;have E:aG d wb 281 [.map (some nb),vs,vc,.bool c.kr]:=(key wb h.row.lt v (t wb h.wB)).trans h.row;rw[Cd _ _ _ F,<-N4] at m;refine⟨⟨E.set 1 a,?_,?_,?_,h.wB,h.nB⟩,⟨⟨?_,?_,?_,?_,λk g n=> ?_⟩,A,λ_ e=> .inl e⟩⟩
 ·refine m.kG ((o nb (λe=>v e.symm)).trans ((i.block nb ?_ (t nb h.nB)).trans (r nb m.lt)));have:=m.lt;omega
 ·have:d.ownsRow B 9 1 a (c.aY++[s]).length ((c.aY++[s]).map aK):=by simpa using z
  exact dQ this (dD this h.wB) _ _
 ·refine bT h.bh (λk g=> ?_);have w:=h.bh.lt k g;have y:some k≠vs.ownBlock:=λe=>by obtain⟨G,H,x⟩:=eN h.bh k g;obtain⟨I,J,u⟩:=eN h.aY k e.symm;rw[x] at u;cases u
  have p:k≠wb:=by have:=h.wB;omega
  have q:k≠nb:=by have:=h.nB;omega
  exact(o k p).trans (key k w.2 q y)
 ·exact i.os.trans j.os
 ·exact i.tape.trans j.tape
 ·exact i.output.trans j.output
 ·have:=i.size;simp;omega
 ·simp only[not_or] at n;exact(o k n.1).trans (key k g n.2.1 n.2.2.1)
theorem yh (B wb nb:Nat)(a:Wr)(vs vc:ay)(s:ag)(W:ax)(h:dK W B wb nb a vs vc)(hB:B<=W.heap.size)(hl:a.aY.length<=1048576):
 Calls prog 101 #[.pointer (some ⟨wb,0,none⟩),.string ⟨s.toArray⟩] W λe t=>e= .returned (.int .i64 (a.aZ s))/\∃y,dK t B wb nb (a.cP s) y vc/\eY wb nb vs vc y vc W t :=by
 obtain⟨F,E,Q,J,M⟩:=UF Tryz.kJ;obtain⟨Z,Y,N⟩:=gL h.aY;subst N;have R:=h.row.cell? (i:=0) rfl;have X:=h.row.cell? (i:=1) rfl;have z:∀w,(zeroValue 3).run prog w= .ok (.int .i64 0) w:=λw=>by kernel_rfl
 have g:=Ot a.aY s;have b:=aB h;cases f:a.aY.findIdx? (λx=>x==s) with
 |some d=>
  have n:a.aZ s=d:=by unfold Wr.aZ;rw[f];rfl
  have o:a.cP s=a:=by unfold Wr.cP;rw[f]
  rw[f] at g;rw[n,o];have j :cJ (kL a.aY) s=some (.int .i64 (d:Int)):=g;clear h g;go_enter func101,ntmps101;go_wp2_with (first|(at_lookup;refine pQ _ rfl _ _ 179 rfl 9 3 Wh T0 (.int .i64 0) (z _) nb (kL a.aY) rfl b.u.nK s rfl _ j ?_)|fail)
  go_ret;exact⟨rfl,_,b.u,eY.refl _⟩
 |none=>
  have n:a.aZ s=a.aY.length:=by unfold Wr.aZ;rw[f];rfl
  have o:a.cP s=⟨a.aY++[s],a.bh,a.kr⟩:=by unfold Wr.cP;rw[f]
  rw[f] at g;rw[n,o];have j :cJ (kL a.aY) s=none:=g;have P:=mA h.row h.nK;have C:=h.wB;have S:=h.nB;have A:(kL a.aY).length<maxLen:=by unfold kL maxLen;rw[TR,List.length_zipIdx];omega
  clear h g;go_enter func101,ntmps101;go_wp2_with (first|(at_lookup;refine pR _ rfl _ _ 179 rfl 9 3 Wh T0 (.int .i64 0) (z _) nb (kL a.aY) rfl b.u.nK s rfl j ?_)|(at_mapUpdate;refine pT _ rfl _ _ _ 179 rfl 9 3 Wh T0 nb (kL a.aY) rfl b.u.nK A s rfl _ rfl ?_;intro D r i;have m:=b.u.row.tn (lx (p:=λk=>k=nb) i rfl) P;have d1:=m.cell? (i:=1) rfl;have U:=(lx (p:=λk=>k=nb) i rfl).size;have O:=aB (bT b.u.aY (λk c=>(lx (p:=λk=>k=nb) i rfl).block k (b.u.aY.lt k c).2 (by have:=(b.u.aY.lt k c).1;omega)));have H:=aB m;have K:=aB r;have L:=aB i;clear r i m)|(at_builtin;refine Uu _ rfl (.tmp 33) (.tmp 35) 30 rfl B 9 F (.string ⟨#[]⟩) 1 16 UC E Q J M rfl (by decide) _ a.aY.length _ rfl (T_ O.u _) ⟨_,0,none⟩ 1 1 [.string ⟨s.toArray⟩] rfl rfl (gw _ _ [_]) (uG _) (by unfold maxLen;omega) (by omega) (by rw[TM];omega) ?_;intro v1 T q l I v;obtain⟨V,q2,rfl,-,-⟩:=d_ q (by omega);have p:=H.u.grown ((UK D _ _).trans l) (dD b.u.aY C);have aa :=p.cell? (i:=1) rfl;have ab :=p.frozen 1;have G:=aB (b.u.Re (s:=s) j K.u L.u l q (λk c=>by rcases v with e|e;exact .inl (e▸c);(rw [e] at c;cases c;exact .inr (by rw[TM];omega))));clear q l I v p)|fail)
  go_ret;exact⟨rfl,_,G.u⟩
theorem pS {g:Program}{o:Array Oper}{b:Oper}{a:Act}{w:ax}{K:Act->ax->Prop}{Q:Exit->Act->ax->Prop}{E:Prop}(t:b.guard=none)(s x:Operand)(j:TypeId)(r:b.op=Op.call {callee:=Callee.builtin Builtin.append,args:= #[s,x],argTypes:= #[j,j]})(base:Nat)(e:TypeId)(h:TypeInfo)(z:ay)(size bytes:Nat)(P:g.underlying j=some (.slice e))(y:g.info? e=some h)(H:h.zero=some z)(C:h.size=size)(R:h.bytes=bytes)(U:z.cells.size=size)(O:0<size)(v:ay)(n:Nat)(k:List ay)(G:a.eval s=v)(V:w.ownsRow base e size v n k)(l:Addr)(m c:Nat)(f:List ay)(I:a.eval x= .slice (some l) m c)(T:f.length=m*size)(A:∀p u,f[p]?=some u->w.cell? (l.add p)=some u)(B:∀u∈f,u.oneCell' =true)(S:n+m<=maxLen)(L:(n+m)*bytes<=140737488355328)(M:base<=w.heap.size)(D:∀d i,i.ownsRow base e size d (n+m) (k++f)->w.grownBy i v.ownBlock->(d.ownBlock=v.ownBlock\/d.ownBlock=some w.heap.size)->K (a.put b.dst d) i):
 if Region.wanted b (yielded o a.tmps)=true then Oper.wp g b a w K Q else E:=by
 have J:Region.wanted b (yielded o a.tmps)=true:=by simp[Region.wanted,t]
 rw[TP J];obtain⟨d,i,X,F,q,_,N⟩:=run_append_own_at (P:=g) w base j b.type e h z size bytes P y H C R U O v n k V l m c f T A B S L M;unfold Oper.wp;simp[execOp,r,resolve,invoke,builtin,G,I,X,Result.andThen];exact D d i F q N
variable {b:Bool}
theorem dK.Hs {W Z:ax}{B wb nb:Nat}{vs vc:ay}{g :ag}(h:dK W B wb nb c vs vc)(l:aG Z wb 281 [.map (some nb),vs,a,.bool b])(n:Z.ownsRow B 5 1 a g.length (Lib.byteCells g))(f:Tn (λk=>k=wb\/some k=vc.ownBlock) W Z)(m:Az W vc a):dK Z B wb nb ⟨c.aY,g,b⟩ vs a /\eY wb nb vs vc vs a W Z:=by
 have o:=mA h.row h.nK;refine⟨⟨l,h.nK.tn f (λe=>e.elim (λe=>o e.symm) (dD h.bh h.nB)),bT h.aY (λk d=>f.block k (h.aY.lt k d).2 (λe=> ?_)),n,h.wB,h.nB⟩,f.mono (λk e=>e.elim .inl (λe=> .inr (.inr (.inr e)))),λ_ e=> .inl e,m⟩;rcases e with e|e
 ·have s:=(h.aY.lt k d).1;have p:=h.wB;omega
 ·obtain⟨q,r,j⟩:=eN h.bh k e.symm;obtain⟨t,u,i⟩:=eN h.aY k d;rw[j] at i;cases i
theorem dK.zY {W W1:ax}{B wb nb:Nat}{vs vc:ay}{bs:ag}(h:dK W B wb nb c vs vc)(o:Tn (λk=>k=wb) W W1)(m:aG W1 wb 281 [.map (some nb),vs,vc,.bool b])(f:W1.grownBy d vc.ownBlock)(n:d.ownsRow B 5 1 a (c.bh.length+bs.length) (Lib.byteCells c.bh++Lib.byteCells bs))(l:∀k,a.ownBlock=some k->vc.ownBlock=some k\/W.heap.size<=k):
 dK (d.setCell ⟨wb,2,none⟩ a) B wb nb ⟨c.aY,c.bh++bs,b⟩ vs a /\eY wb nb vs vc vs a W (d.setCell ⟨wb,2,none⟩ a):=by
 have i:=dD h.bh h.wB;have j:=(m.grown f i).set 2 a;have g :d.ownsRow B 5 1 a (c.bh++bs).length (Lib.byteCells (c.bh++bs)):=by rw[V3,TE];exact n
 refine h.Hs j (dQ g (dD g h.wB) _ _) ?_ l;exact((o.mono (λk e=> .inl e)).trans (Tn.grown f (λk e=> .inr e.symm))).trans (Tn.set d ⟨wb,2,none⟩ _ (.inl rfl))
