/- . -/
import Derived.Test.YtjelacjggijmfaaGreatDoorYWR5
import Derived.Test.YtjelacjggijmfaaGreatDoorYMD
import Derived.Test.YtjelacjggijmfaaGreatDoorYW5
import Derived.Lib.SlBytesConst
set_option maxHeartbeats 4000000
set_option maxRecDepth 100000
namespace Go.Proofs.YtjelacjggijmfaaGreatDoor
open Pl Mk Cp Proofs.Tryz
open RowKit MapKept ChangeMaps Maps
def cY (a:List ag):ag:=a.flatMap λs=>dc s.length 2++s
def kX (a:List ag)(b:Nat):ag:=([80,49]++dc a.length 2)++cY (a.take b)
def ma (a:Wr)(b:Nat):Bool:=(a.kr||gT a.aY.length 2)||(a.aY.take b).any λs=>gT s.length 2
def nA (a:Wr):Option ag:=if ma a a.aY.length||decide (1000<a.aY.length) then none else some (kX a.aY a.aY.length++a.bh)
def pj:Option ag->ay
 |some a=> .tuple #[.string ⟨a.toArray⟩,.bool true]
 |none=> .tuple #[.string ⟨#[]⟩,.bool false]
theorem Ds:∀(c:List ag) (a:Nat),(cY (c.take a)).length<=(cY c).length
 |[],a=>by simp
 |s::b,0=>by simp[cY]
 |s::b,a+1=>by have d:=Ds b a;unfold cY at*;simp only[Xk,Ud,TE];omega
theorem EE:∀(a:List ag) (s:ag),s∈a->s.length<=(cY a).length
 |[],s,h=>by cases h
 |x::c,s,h=>by
  unfold cY;simp only[Ud,TE];rcases Ue.1 h with e|e
  ·subst e;omega
  ·have b:=EE c s e;unfold cY at b;omega
theorem Ce:∀(a:List ag),a.length<=(cY a).length
 |[]=>TD _
 |x::b=>by have c:=Ce b;have:=iU x.length 2 (TD 2);unfold cY at*;simp only[Ud,TE,TK];omega
theorem Fc (a:List ag)(b:Nat):(kX a b).length<=4+(cY a).length:=by have d:=Ds a b;have c:=iU a.length 2 (TD 2);unfold kX;simp only[TE,TK,T1];omega
theorem MW (a:List ag)(b:Nat)(h:b<a.length):kX a (b+1)=kX a b++dc a[b].length 2++a[b]:=by unfold kX cY;rw[YK,TH h,US];simp
theorem LZ (a:Wr)(b:Nat)(h:b<a.aY.length):ma a (b+1)=(ma a b||gT a.aY[b].length 2):=by unfold ma;rw[YK,TH h,List.any_append];simp[Bool.or_assoc]
variable {i:Nat->Prop}
theorem Tn.tail {q:Nat->Prop}{a b c:ax}(h:Tn i a b)(d:Tn q b c)(j:∀k,q k->a.heap.size<=k):Tn i a c:=⟨d.os.trans h.os,d.tape.trans h.tape,d.output.trans h.output,TT h.size d.size,λk f g=>(d.block k (T7 f h.size) (λe=>by have:=j k e;omega)).trans (h.block k f g)⟩
theorem Jr (s:ag):Lib.strCells ⟨s.toArray⟩=Lib.byteCells s:=by unfold Lib.strCells Lib.byteCells;rfl
theorem Lk (a:Wr):ma a 0=(a.kr||gT a.aY.length 2):=by unfold ma;simp
theorem Nx (a:List ag):kX a 0=[80,49]++dc a.length 2:=by unfold kX cY;simp
variable {a g m o n p r:Nat}
theorem K8 {w:ax}{b:Nat}{f:TypeId}{c:List ay}{d:Nat×Nat}{u:ay}(h:w.heap[b]?=some (.cells c.toArray f d))(e:c[a]?=some u):w.cell? ⟨b,a,none⟩=some u:=by unfold World.cell?;simp[h,e]
structure A6 (W:ax)(H wb nb:Nat)(p:Wr)(vs vc:ay)(i:Nat)(ov:ay)(wr:ax):Prop where
 tn:Tn (λk=>k=wb) W wr
 hH:W.heap.size<=H/\H<=wr.heap.size
 row:aG wr wb 281 [.map (some nb),vs,vc,.bool (ma p i)]
 bI:wr.ownsRow H 5 1 ov (kX p.aY i).length (Lib.byteCells (kX p.aY i))
variable {c:ag}
theorem No {w:ax}{B:Nat}{v:ay}(h:w.ownsRow B 5 1 v c.length (Lib.byteCells c))(b:0<c.length):(convert 126 9 v).run prog w= .ok (.string ⟨c.toArray⟩) w:=by obtain⟨e,cap,rfl,-⟩:=d_ h b;refine aaC w _ _ 5 _ cap c Ui U7 T0 ?_;intro d a;have:=kI h d (by rw[Va];exact a);rw[ji,this];unfold Lib.byteCells;simp
theorem Lc (B f A:Nat)(a:Wr)(vs vc:ay)(W:ax)(h:dK W B f A a vs vc)(a8:(cY a.aY).length<=1000000000)(aN:0<a.bh.length)(a1:a.bh.length<=1073741824):
 Calls prog 102 #[.pointer (some ⟨f,0,none⟩)] W λe W'=>e= .returned (pj (nA a))/\Tn (λk=>k=f) W W' :=by
 obtain⟨w,v,D,y,L⟩:=UF Tryz.uR;have aV:=Ce a.aY;have ai:=Lib.run_convert_bytes_const (P:=prog) W 126 5 #[.int .u8 80,.int .u8 49] 2 2 Ui U7;obtain⟨sa,V,aI⟩:=gL h.aY;obtain⟨C,F,aD,-⟩:=d_ h.bh aN;subst aI aD;have l:=aB h;have a3:=h.row.lt;have aW:=h.wB;obtain⟨g,q⟩:∃g,g=W.alloc (.cells #[.int .u8 80,.int .u8 49] 5 (2,3)):=⟨_,rfl⟩;have aQ :(convert 126 126 (.slice (some ⟨W.heap.size,0,none⟩) 2 2)).run prog (W.alloc (.cells #[.int .u8 80,.int .u8 49] 5))= .ok (.slice (some ⟨W.heap.size,0,none⟩) 2 2) g:=by rw[q];exact ai
 have U:Below W.heap.size W g:=by rw[q];exact aj W _
 have N:aG g f 281 _:=h.row.aE U;have c1:=N.cell? (i:=1) rfl;have al:g.heap[W.heap.size]?=some (.cells #[.int .u8 80,.int .u8 49] 5 (2,3)):=by rw[q];show(W.heap.push _)[W.heap.size]?=_;simp
 have a4 :g.heap.size=W.heap.size+1:=by rw[q];exact TM _ _
 have s:=aB (vX f a.aY.length 2 (TD 2) _ _ _ _ g N (by omega));have ao:=aB U;have aa:=aB al;clear ai q U N al h;go_enter func102,ntmps102;go_wp2_with (first|(go_at_call 148;refine s.u.mono ?_;clear s;rintro e w2 ⟨N2,rfl,ac,ar,aT,E⟩;have ae:=aB ac;have am:=aB ar;have an:=aB ((E.block W.heap.size (by omega) (by omega)).trans aa.u);have aq:=aB ((Tn.aE (p:=λk=>k=f) ao.u).trans E);have a6:=E.size;clear ac ar aT E)|(at_builtin;refine wpList_append_grows _ rfl (.tmp 8) (.tmp 15) 126 rfl 5 w (.int .u8 0) 1 1 Ui v D y L rfl (by decide) (some ⟨W.heap.size,0,none⟩) 2 2 (Lib.byteCells [80,49]) rfl (λe=>by cases e) rfl (λb e M u m=>by cases e;rw[ji];exact K8 an.u m) ⟨N2,0,none⟩ 2 2 (Lib.byteCells (dc a.aY.length 2)) rfl (by rw[Va,iU _ _ (TD 2)]) (λM u m=>by rw[ji];exact ae.u.cell? m) (sD _) (by omega) (by decide) (by decide) ?_;intro v3 w3 ab G;have T:=am.u.grown G (by simp);have z:=T.cell? (i:=1) rfl;have ad:Hid (A6 W w2.heap.size f A a (.slice sa a.aY.length V) (.slice (some ⟨C,0,none⟩) a.bh.length F) 0 v3 w3):=⟨aq.u.tail (Tn.grown (p:=λ_=>False) G (λk e=>by cases e)) (λ_ e=>e.elim),⟨by omega,G.size⟩,by rw[Lk];exact T,by rw[Nx,TE,iU _ _ (TD 2),V3];exact ab⟩;clear ab G T)|fail)
 generalize w2.heap.size=H at*;clear aa ae am an aq ao aQ c1;go_loopw [4,22] (λov Y wr=>∃c:Nat,Y= .int .i64 c/\c<=a.aY.length/\Hid (A6 W H f A a (.slice sa a.aY.length V) (.slice (some ⟨C,0,none⟩) a.bh.length F) c ov wr)) (λ_ Y _=>a.aY.length-aS Y)
 case atStart=>exact⟨0,rfl,by omega,ad⟩
 case round=>
  clear ad z;obtain⟨c,rfl,aZ,d⟩:=hrel;have a5:=d.u.hH;by_cases I:c<a.aY.length
  ·have t1:(c:Int)<a.aY.length:=by omega
   have t0:(0:Int)<=(c:Int):=by omega
   obtain⟨aH,k0,au,-⟩:=d_ l.u.aY (by omega);cases au;have HS:=aB (bT l.u.aY (λk i=>d.u.tn.block k (l.u.aY.lt k i).2 (by have:=(l.u.aY.lt k i).1;omega)));have Z:=kI HS.u c (by simpa using I);rw[Ut] at Z;have a0:=EE a.aY a.aY[c] (TV I);have ap:=MW a.aY c I;have af:=LZ a c I;have aC:=Fc a.aY c;generalize hx:a.aY[c]=x at*;unfold aK at Z;have ah:=iU x.length 2 (TD 2);have s:=aB (vX f x.length 2 (TD 2) _ _ _ _ wr d.u.row (by omega));have aL:=aB ap;have aM:=aB af;have O:(ByteArray.mk x.toArray).size=x.length:=rfl;clear ap af;go_wp2_with (first|(go_at_call 148;refine s.u.mono ?_;clear s;rintro e w5 ⟨N5,rfl,ag,ak,aJ,J⟩;have av:=aB ag;have az:=aB ak;have X:=aB (bT d.u.bI (λk i=>J.block k (d.u.bI.lt k i).2 (by have:=(d.u.bI.lt k i).1;omega)));have aP:=aB (d.u.tn.trans J);have a2:=J.size;clear ag ak aJ J)|(at_builtin;refine Uu _ rfl (.tmp 26) (.tmp 30) 126 rfl H 5 w (.int .u8 0) 1 1 Ui v D y L rfl (by decide) _ _ _ rfl X.u ⟨N5,0,none⟩ 2 2 (Lib.byteCells (dc x.length 2)) rfl (by rw[Va,ah]) (λM u m=>by rw[ji];exact av.u.cell? m) (sD _) (by unfold maxLen;omega) (by omega) (by omega) ?_;intro v6 w6 p n _ _;have S:=aB p;have aA:=aB (az.u.grown n (dD X.u (by omega)));have R:=aB (aP.u.tail (Tn.grown (p:=λk=>H<=k) n (λk e=>(X.u.lt k e).1)) (λk e=>by omega));have a7:=n.size;clear p n)|(at_builtin;refine VT _ rfl (.tmp 32) (.tmp 33) 126 9 rfl H 5 w Ui T0 v D y L _ _ _ rfl S.u ⟨x.toArray⟩ rfl (by rw[O];unfold maxLen;omega) (by rw[O];omega) (by omega) ?_;intro v7 w7 Q K _;rw[Jr,O] at Q;have aU:Hid (A6 W H f A a (.slice (some ⟨aH,0,none⟩) a.aY.length V) (.slice (some ⟨C,0,none⟩) a.bh.length F) (c+1) v7 w7):=⟨R.u.tail (Tn.grown (p:=λk=>H<=k) K (λk e=>(S.u.lt k e).1)) (λk e=>by omega),⟨by omega,TT (by omega) K.size⟩,by rw[aM.u];exact aA.u.grown K (dD S.u (by omega)),by rw[aL.u,TE,TE,ah,V3,V3];exact Q⟩;clear Q K)|fail)
   go_roundw
   case rel=>exact⟨c+1,by go_num,by omega,aU⟩
   case measure=>simp only[aS];omega
  ·have aO:c=a.aY.length:=by omega
   subst aO;have t1:¬(a.aY.length:Int)<a.aY.length:=by omega
   have c1:=d.u.row.cell? (i:=1) rfl;have c2:=d.u.row.cell? (i:=2) rfl;have z:=d.u.row.cell? (i:=3) rfl;have o:Hid (nA a=if ma a a.aY.length||decide (1000<a.aY.length) then none else some (kX a.aY a.aY.length++a.bh)):=rfl;cases t:ma a a.aY.length with
   |true=>
    rw[t] at z;have j:nA a=none:=by rw[o.u,t];rfl
    have r:=aB j;clear o j;go_wp2_with fail
    go_ret2
    exact⟨by rw[r.u];rfl,d.u.tn⟩
   |false=>
    rw[t] at z;by_cases hb:1000<a.aY.length
    ·have t2:(1000:Int)<a.aY.length:=by omega
     have j:nA a=none:=by rw[o.u,t];simp[hb]
     have r:=aB j;clear o j;go_wp2_with fail
     go_ret2
     exact⟨by rw[r.u];rfl,d.u.tn⟩
    ·have t2:¬(1000:Int)<a.aY.length:=by omega
     have j:nA a=some (kX a.aY a.aY.length++a.bh):=by rw[o.u,t];simp[hb]
     have r:=aB j;clear o j;have aC:=Fc a.aY a.aY.length;have aR:=aB (bT l.u.bh (λk i=>d.u.tn.block k (l.u.bh.lt k i).2 (by have:=(l.u.bh.lt k i).1;omega)));go_wp2_with (first|(at_builtin;refine Uu _ rfl (.tmp 48) (.tmp 52) 126 rfl H 5 w (.int .u8 0) 1 1 Ui v D y L rfl (by decide) _ _ _ rfl d.u.bI ⟨C,0,none⟩ a.bh.length F (Lib.byteCells a.bh) rfl (by rw[Va];omega) (λM u m=>by rw[ji];obtain⟨aw,aF⟩:=TZ.1 m;rw[<-aF];exact kI aR.u M aw) (sD _) (by unfold maxLen;omega) (by omega) (by omega) ?_;intro v6 w6 p n _ _;rw[<-V3,<-TE] at p;have aX:=No p (by rw[TE];omega);have R:=aB (d.u.tn.tail (Tn.grown (p:=λk=>H<=k) n (λk e=>(d.u.bI.lt k e).1)) (λk e=>by omega));clear p n)|fail)
     go_ret2
     exact⟨by rw[r.u];rfl,R.u⟩
structure bP where
 name:ag
 ph:Bool
 aF:List ag
 stem:ag
 aH:List ag
def cL:dM->ag->Nat->dM
 |[],k,v=>[(k,v)]
 |x::a,k,v=>if x.1==k then(k,v)::a else x::cL a k v
theorem vJ (k:ag)(v:Nat):∀a:dM,eK (gY a) k (.int .i64 (v:Int))=gY (cL a k v)
 |[]=>rfl
 |x::c=>by
  have b:=vJ k v c;unfold gY at*;rw[Ug,eK,cL];cases d:(x.1==k) with
  |true=>simp|false=>simp[b]
theorem D1 (k:ag)(v:Nat):∀a:dM,(cL a k v).length<=a.length+1
 |[]=>TD _
 |x::b=>by
  have c:=D1 k v b;rw[cL];split
  ·simp
  ·simp only[TK];omega
theorem wG (k:ag)(v n:Nat)(b:v<n):∀c:dM,(∀x∈c,x.2<n)->∀x∈cL c k v,x.2<n
 |[],_,x,a=>by rw[cL,TL] at a;subst a;exact b
 |y::f,h,x,a=>by
  rw[cL] at a;split at a
  ·rcases Ue.1 a with e|e
   ·subst e;exact b
   ·exact h x (TX _ e)
  ·rcases Ue.1 a with e|e
   ·subst e;exact h _ (TY ..)
   ·exact wG k v n b f (λz d=>h z (TX _ d)) x e
def cZ (b:List bP):Nat->Wr×dM
 |0=>(⟨[],[],false⟩,[])
 |a+1=>match b[a]? with|some x=>(lY (ir (cL (cZ b a).2 x.name a) (cZ b a).1 x.ph x.name x.aF) x.aH a,cL (cZ b a).2 x.name a)|none=>cZ b a
def fB (a:List bP):Option ag:=nA (cZ a a.length).1
theorem sk (b:List bP)(a:Nat)(h:a<b.length):cZ b (a+1)=(lY (ir (cL (cZ b a).2 b[a].name a) (cZ b a).1 b[a].ph b[a].name b[a].aF) b[a].aH a,cL (cZ b a).2 b[a].name a):=by rw[cZ,TH h]
def bP.sz (x:bP):Nat:=2+x.name.length+(cY x.aF).length+(cY x.aH).length
def mn (a:List bP):Nat:=(a.map bP.sz).sum
theorem LL (a:List ag)(s:ag):(cY (a++[s])).length=(cY a).length+2+s.length:=by unfold cY;rw[US,TE];simp[iU s.length 2 (Nat.le_refl 2)];omega
theorem z_ (a:Wr)(s:ag):(cY (a.cP s).aY).length<=(cY a.aY).length+2+s.length:=by
 unfold Wr.cP;cases b:a.aY.findIdx? (λx=>x==s) with
 |none=>rw[LL];exact TD _
 |some c=>simp only;omega
theorem JP (b:dM)(a:Nat)(q:Wr)(x:ag):(cY (fH b a q x).aY).length<=(cY q.aY).length+2+x.length:=by unfold fH;rw[gU,gU];refine TT (z_ _ _) ?_;rw[gU,gU];exact TD _
theorem yG (s:ag)(a:List ag):(cY (s::a)).length=2+s.length+(cY a).length:=by unfold cY;rw[Ud,TE,TE,iU s.length 2 (TD 2)]
theorem BG (b:dM)(a:Nat):∀(c:List ag) (q:Wr),(cY (c.foldl (fH b a) q).aY).length<=(cY q.aY).length+(cY c).length
 |[],q=>XW _ _
 |n::d,q=>by have e:=BG b a d (fH b a q n);have f:=JP b a q n;rw[Ux,yG];omega
theorem Mt (d:dM)(a:Wr)(c:Bool)(name:ag)(b:List ag):(cY (ir d a c name b).aY).length<=(cY a.aY).length+2+name.length+(cY b).length:=by
 unfold ir;cases c with
 |true=>rw[TP rfl,gU];omega
 |false=>simp only[Uj,Vk];have e:=BG d (a.aZ name) b (bR (a.cP name) 2 [a.aZ name]);have f:=z_ a name;rw[gU] at e;omega
theorem B4:∀(a:List ag) (q:Wr),(cY (a.foldl gd q).aY).length<=(cY q.aY).length+(cY a).length
 |[],q=>XW _ _
 |c::b,q=>by
  have e:=B4 b (gd q c);have d:(cY (gd q c).aY).length<=(cY q.aY).length+2+c.length:=by unfold gd;rw[gU];exact z_ q c
  rw[Ux,yG];omega
theorem ON (a:Wr)(b:List ag)(c:Nat):(cY (lY a b c).aY).length<=(cY a.aY).length+(cY b).length:=by show(cY (fK (bR a 6 []) b c).aY).length<=_;unfold fK;rw[gU];have:=B4 b (bR a 6 []);rw[gU] at this;exact this
theorem OP (a:Wr)(c:List ag)(b:Nat):a.bh.length+3<=(lY a c b).bh.length:=by have d:=zo a;have e:=yI (bR a 6 []) c b;show _<=((fK (bR a 6 []) c b).bh.take (a.bh.length+1)++(dc _ 2++(fK (bR a 6 []) c b).bh.drop (a.bh.length+1+2))).length;rw[zE _ _ _ (iU _ _ (TD 2)) (by omega)];omega
structure S6 (ss:List bP)(i:Nat):Prop where
 aY:(cZ ss i).1.aY.length<=2001*i
 bh:(cZ ss i).1.bh.length<=30000*i
 sz:(cY (cZ ss i).1.aY).length<=mn (ss.take i)
 bg:0<i->0<(cZ ss i).1.bh.length
 AF:(cZ ss i).2.length<=i
 lt:∀x∈(cZ ss i).2,x.2<i
theorem I2 (b:List bP)(g:∀x∈b,x.aF.length<=1000/\x.aH.length<=1000):∀a,a<=b.length->S6 b a
 |0,_=>⟨TD _,TD _,TD _,λe=>by omega,TD _,λx d=>by cases d⟩
 |a+1,n=>by
  have c:=I2 b g a (by omega);have f:a<b.length:=by omega
  obtain⟨q,l⟩:=g b[a] (TV f);have e:=sk b a f;have s:=Dk (cL (cZ b a).2 b[a].name a) (cZ b a).1 b[a].ph b[a].name b[a].aF;have t:=MZ (ir (cL (cZ b a).2 b[a].name a) (cZ b a).1 b[a].ph b[a].name b[a].aF) b[a].aH a;have k:=Mt (cL (cZ b a).2 b[a].name a) (cZ b a).1 b[a].ph b[a].name b[a].aF;have j:=ON (ir (cL (cZ b a).2 b[a].name a) (cZ b a).1 b[a].ph b[a].name b[a].aF) b[a].aH a;have u:=OP (ir (cL (cZ b a).2 b[a].name a) (cZ b a).1 b[a].ph b[a].name b[a].aF) b[a].aH a;have p:=D1 b[a].name a (cZ b a).2;have r:=c.aY;have o:=c.bh;have i:=c.sz;have m:=c.AF;have h:mn (b.take (a+1))=mn (b.take a)+b[a].sz:=by unfold mn;rw[TW f,T',X4];simp
  refine⟨?_,?_,?_,?_,?_,?_⟩
  ·rw[e];dsimp only;omega
  ·rw[e];dsimp only;omega
  ·rw[e,h];unfold bP.sz;dsimp only;omega
  ·rw[e];dsimp only;omega
  ·rw[e];dsimp only;omega
  ·rw[e];exact wG _ a (a+1) (by omega) _ (λx d=>by have:=c.lt x d;omega)
theorem PD (a:List bP)(b:Nat):mn (a.take b)<=mn a:=by
 unfold mn;rw[List.map_take]
 conv=>rhs;rw[<-VW b (a.map bP.sz)]
 rw[X4];omega
def AL (W:ax)(b d:Nat)(c:List ay):Prop:=∀(a:Nat) (u:ay),c[a]?=some u->W.cell? ⟨b,d+a,none⟩=some u
def S_ (W:ax)(L b h:Nat)(x:bP):Prop:=∃(e d am:Option Addr) (j g c no a co f i:Nat),
 AL W b h [aK x.name,.bool x.ph,.slice e x.aF.length j,.slice am f i,aK x.stem,.slice d x.aH.length g]/\(0<x.aF.length->e=some ⟨c,no,none⟩/\c<L/\dV W c no x.aF)/\(0<x.aH.length->d=some ⟨a,co,none⟩/\a<L/\dV W a co x.aH)
theorem JH (W:ax):Calls prog 96 #[] W λe a=>∃b g,e= .returned (.pointer (some ⟨b,0,none⟩))/\(∀B,a.heap.size<=B->dK a B b g ⟨[],[],false⟩ (.slice none 0 0) (.slice none 0 0))/\Below W.heap.size W a /\W.heap.size<=b/\W.heap.size<=g:=by
 have l:= @XN prog;have d:=(TF W.heap.size W).alloc ak (.map #[] 0);have c:(W.alloc (.map #[] 0)).heap.size=W.heap.size+1:=TM _ _;have h:=(TF (W.alloc (.map #[] 0)).heap.size (W.alloc (.map #[] 0))).alloc ak (.cells #[.map (some W.heap.size),.slice none 0 0,.slice none 0 0,.bool false] 281);have j:Hid (Below W.heap.size W ((W.alloc (.map #[] 0)).alloc (.cells #[.map (some W.heap.size),.slice none 0 0,.slice none 0 0,.bool false] 281))):=d.alloc (by omega) _;have i:Hid (∀B,((W.alloc (.map #[] 0)).alloc (.cells #[.map (some W.heap.size),.slice none 0 0,.slice none 0 0,.bool false] 281)).heap.size<=B->dK ((W.alloc (.map #[] 0)).alloc (.cells #[.map (some W.heap.size),.slice none 0 0,.slice none 0 0,.bool false] 281)) B (W.heap.size+1) W.heap.size ⟨[],[],false⟩ (.slice none 0 0) (.slice none 0 0)):=λB k=>by rw[TM,c] at k;have f:=aG.bA (W.alloc (.map #[] 0)) 281 [.map (some W.heap.size),.slice none 0 0,.slice none 0 0,.bool false];rw[c] at f;exact⟨f,(bC.jV W).aE h,Uk _ _ _ _,Uk _ _ _ _,by omega,by omega⟩
 clear d h c;go_enter func96,ntmps96;go_wp2_with fail
 go_ret;exact⟨_,_,rfl,i.u,j.u,by omega,by omega⟩
structure AU (W:ax)(B wb nb xb fb:Nat)(ss:List bP)(i:Nat)(wr:ax):Prop where
 wm:∃vs vc,dK wr B wb nb (cZ ss i).1 vs vc
 aL:Below W.heap.size W wr
 size:B<=wr.heap.size
 AF:bC wr fb (gY (cZ ss i).2)
 dt:aG wr xb 207 [.pointer (some ⟨wb,0,none⟩)]
variable {b e:ay}
theorem dK.tn {W Z:ax}{B:Nat}{j:Wr}(h:dK W B a g j b e)(d:Tn i W Z)(m:¬i a)(l:¬i g)(f:∀k,B<=k->¬i k):dK Z B a g j b e:=⟨h.row.tn d m,h.nK.tn d l,bT h.aY (λk c=>d.block k (h.aY.lt k c).2 (f k (h.aY.lt k c).1)),bT h.bh (λk c=>d.block k (h.bh.lt k c).2 (f k (h.bh.lt k c).1)),h.wB,h.nB⟩
theorem MM (c:List bP)(a:Option Addr)(cap H Q:Nat)(W:ax)(ha:0<c.length->a=some ⟨H,Q,none⟩)(a6:H<W.heap.size)(hr:∀b (h:b<c.length),S_ W W.heap.size H (Q+b*6) c[b])(h0:0<c.length)(hl:c.length<=200)(hn:∀x∈c,x.aF.length<=1000/\x.aH.length<=1000)(hz:mn c<=1000000000):
 Calls prog 67 #[.slice a c.length cap] W λe W'=>e= .returned (pj (fB c))/\Below W.heap.size W W' :=by
 have aY:= @XN prog;have C1:=aB (JH W);obtain rfl:=ha h0;have HR:=aB hr;have HN:=aB (I2 c hn);have aV:=aB hn;clear ha hr hn;go_enter func67,ntmps67;go_wp2_with (first|(go_at_call 96;refine C1.u.mono ?_;clear C1;rintro e f ⟨d,i,rfl,aQ,T,B,Z⟩;have ah:=aB aQ;have aP:=aB T;clear aQ T)|fail)
 have aC:Hid (AU W (f.heap.size+2) d i f.heap.size (f.heap.size+1) c 0 ((f.alloc (.cells #[.pointer (some ⟨d,0,none⟩)] 207)).alloc (.map #[] 0))):=by have L:(f.alloc (.cells #[.pointer (some ⟨d,0,none⟩)] 207)).heap.size=f.heap.size+1:=TM _ _;have T:=(TF f.heap.size f).alloc ak (.cells #[.pointer (some ⟨d,0,none⟩)] 207);have aJ:=T.alloc (by omega) (.map #[] 0);have aR:=(TF (f.alloc (.cells #[.pointer (some ⟨d,0,none⟩)] 207)).heap.size (f.alloc (.cells #[.pointer (some ⟨d,0,none⟩)] 207))).alloc ak (.map #[] 0);have al:=bC.jV (f.alloc (.cells #[.pointer (some ⟨d,0,none⟩)] 207));rw[L] at al;exact⟨⟨_,_,(ah.u _ (by omega)).aE aJ⟩,aP.u.tr aJ,by rw[TM,L];exact TD _,al,(aG.bA f 207 [_]).aE aR⟩
 obtain⟨bg,bf⟩:=(ah.u _ ak).size;clear ah aP;generalize f.heap.size=N at*;go_loopw [12] (λiv wr=>∃b:Nat,iv= .int .i64 b/\b<=c.length/\Hid (AU W (N+2) d i N (N+1) c b wr)) (λiv _=>c.length-aS iv)
 case atStart=>exact⟨0,rfl,by omega,aC⟩
 case round=>
  clear aC aY;obtain⟨b,rfl,a3,g⟩:=hrel;obtain⟨b1,b2,b3,b4,b5,V⟩:=HN.u b a3;by_cases hi:b<c.length
  ·have t1:(b:Int)<c.length:=by omega
   have t0:(0:Int)<=(b:Int):=by omega
   obtain⟨m,l,am,v,t,Y,no,S,co,q,A,aA,aU,gp⟩:=HR.u b hi;obtain⟨a4,a2⟩:=aV.u c[b] (TV hi);have aN:=aB (sk c b hi);obtain⟨vs,X,s⟩:=g.u.wm;have af:=g.u.aL;have bb:=g.u.size;have r:∀(ae:Nat) (u:ay),[aK c[b].name,.bool c[b].ph,.slice m c[b].aF.length v,.slice am q A,aK c[b].stem,.slice l c[b].aH.length t][ae]?=some u->wr.cell? ⟨H,Q+b*6+ae,none⟩=some u:=λae u hj=>(af.cell (p:=⟨H,_,none⟩) a6).trans (aA ae u hj);have g0:wr.cell? ⟨H,Q+b*6,none⟩=some (aK c[b].name):=r 0 _ rfl;have g1:=r 1 _ rfl;have g2:=r 2 _ rfl;have g3:=r 3 _ rfl;have g4:=r 4 _ rfl;have g5:=r 5 _ rfl;have a1:=Dk (cL (cZ c b).2 c[b].name b) (cZ c b).1 c[b].ph c[b].name c[b].aF;have R:Hid (0<c[b].aF.length->m=some ⟨Y,no,none⟩/\Y <W.heap.size/\dV W Y no c[b].aF):=aU;have ab:Hid (0<c[b].aH.length->l=some ⟨S,co,none⟩/\S<W.heap.size/\dV W S co c[b].aH):=gp;have au:=wG c[b].name b 2147483648 (by omega) (cZ c b).2 (λx hx=>by have:=V x hx;omega);have aT:=aB au;clear r aA aU gp V au;generalize hP:(cZ c b).1=M at*;generalize hF:(cZ c b).2=F at*;have aO:=aB g.u.AF;have a0:=aB g.u.dt;rw[hF] at aO;generalize hx:c[b]=x at*;obtain⟨name,o,j,C,I⟩:=x;dsimp only at*;have aW:(gY F).length<maxLen:=by unfold gY maxLen;rw[TR];omega
   have L:(wr.alloc (.cells #[.int .i64 (b:Int)] 3)).heap.size=wr.heap.size+1:=TM _ _;have q1:=(TF wr.heap.size wr).alloc ak (.cells #[.int .i64 (b:Int)] 3);have K:=q1.alloc (by omega) (.cells #[aK name,.bool o,.slice m j.length v,.slice am q A,aK C,.slice l I.length t] 206);have q3:=(TF _ (wr.alloc (.cells #[.int .i64 (b:Int)] 3))).alloc ak (.cells #[aK name,.bool o,.slice m j.length v,.slice am q A,aK C,.slice l I.length t] 206);have rI:=(aG.bA wr 3 [.int .i64 (b:Int)]).aE q3;have rS:=aG.bA (wr.alloc (.cells #[.int .i64 (b:Int)] 3)) 206 [aK name,.bool o,.slice m j.length v,.slice am q A,aK C,.slice l I.length t];rw[L] at rS;have E:Hid (Below W.heap.size W _/\dK _ (N+2) d i M vs X/\bC _ (N+1) (gY F)/\aG _ N 207 _/\aG _ wr.heap.size 3 _/\aG _ (wr.heap.size+1) 206 _):=⟨af.tr K,s.aE K,aO.u.aE K,a0.u.aE K,rI,rS⟩;have aX:((wr.alloc (.cells #[.int .i64 (b:Int)] 3)).alloc (.cells #[aK name,.bool o,.slice m j.length v,.slice am q A,aK C,.slice l I.length t] 206)).heap.size=wr.heap.size+2:=by rw[TM,L]
   have CS:=aB (λ(w:ax) (h1:dK w (N+2) d i M vs X) (h2:N+2<=w.heap.size) (h3:bC w (N+1) (gY (cL F name b))) (h4:Below W.heap.size W w)=>Jy (N+2) W.heap.size d i (N+1) M vs X (cL F name b) name C o j m v Y no (.slice am q A) w h1 h2 B Z h3 (by omega) (by omega) aT.u (λe=>⟨(R.u e).1,(R.u e).2.1,(R.u e).2.2.aL h4 (R.u e).2.1⟩) a4 (by omega) (by omega));have CK:=aB (λ(w:ax) (aw az :ay) (h1:dK w (N+2) d i (ir (cL F name b) M o name j) aw az) (h2:N+2<=w.heap.size) (h4:Below W.heap.size W w) (hS:aG w (wr.heap.size+1) 206 [aK name,.bool o,.slice m j.length v,.slice am q A,aK C,.slice l I.length t]) (hX:aG w N 207 [.pointer (some ⟨d,0,none⟩)]) (hI:aG w wr.heap.size 3 [.int .i64 (b:Int)])=>KL (N+2) W.heap.size d i (wr.heap.size+1) N wr.heap.size b (ir (cL F name b) M o name j) aw az _ _ _ _ _ I l t S co w h1 h2 B Z hS hX hI (by omega) (λe=>⟨(ab.u e).1,(ab.u e).2.1,(ab.u e).2.2.aL h4 (ab.u e).2.1⟩) a2 (by omega) (by omega));clear q1 K q3 rI rS s af;unfold rm Ae aK at*;go_wp2_with (first|(at_mapUpdate;refine pT _ rfl _ _ _ 179 rfl 9 3 Wh T0 (N+1) (gY F) rfl E.u.2.2.1 aW name rfl (.int .i64 (b:Int)) rfl ?_;intro w3 ag ar;rw[vJ] at ag;have y:=lx (p:=λk=>k=N+1) ar rfl;have be:=y.size;have aM:=aB (E.u.1.trans (y.aL (by omega) (λk e=>by omega)));have D:=aB (E.u.2.1.tn y (by omega) (by omega) (λk hk e=>by omega));have ao:=aB (E.u.2.2.2.1.tn y (by omega));have a_:=aB (E.u.2.2.2.2.1.tn y (by omega));have G:=aB (E.u.2.2.2.2.2.tn y (by omega));have aD:=aB ag;have x0:=ao.u.cell? (i:=0) rfl;have d0:=G.u.cell? (i:=0) rfl;have d1:=G.u.cell? (i:=1) rfl;have d2:=G.u.cell? (i:=2) rfl;have d3:=G.u.cell? (i:=3) rfl;have d4:=G.u.cell? (i:=4) rfl;clear ag ar y)|(go_at_call 97;refine(CS.u _ D.u (by omega) aD.u aM.u).mono ?_;clear CS;rintro e w4 ⟨rfl,ba,bd,av,z⟩;have bh:=z.tn.size;have ap:=aB (aM.u.trans (eY.aL D.u z B Z));have aj:=aB (ao.u.jG D.u z (by decide) (by decide) (by decide));have a7:=aB (a_.u.jG D.u z (by decide) (by decide) (by decide));have a9:=aB (G.u.jG D.u z (by decide) (by decide) (by decide));have aZ:=aB (aD.u.jG D.u z (by omega) (by omega));have y0:=aj.u.cell? (i:=0) rfl;have ad:=aB av;clear av z)|(go_at_call 98;refine(CK.u _ _ _ ad.u (by omega) ap.u a9.u aj.u a7.u).mono ?_;clear CK;rintro e w5 ⟨rfl,bc,bi,aq,P⟩;have a5:Hid (AU W (N+2) d i N (N+1) c (b+1) w5):=⟨⟨_,_,by rw[aN.u];exact aq⟩,ap.u.trans (eY.aL ad.u P B Z),TT (by omega) P.tn.size,by rw[aN.u];exact aZ.u.jG ad.u P (by omega) (by omega),aj.u.jG ad.u P (by decide) (by decide) (by decide)⟩;clear aq P)|fail)
   go_roundw
   case rel=>exact⟨b+1,by go_num,by omega,a5⟩
   case measure=>simp only[aS];omega
  ·have a8:b=c.length:=by omega
   subst a8;have t1:¬(c.length:Int)<c.length:=by omega
   have cx:=g.u.dt.cell? (i:=0) rfl;obtain⟨vs,X,s⟩:=g.u.wm;have aX:=PD c c.length;have n:=Lc _ _ _ _ _ _ _ s (by omega) (b4 h0) (by omega);have aa:Hid (fB c=nA (cZ c c.length).1):=rfl;have aI:=aB g.u.aL;have bj:=s.size.1;cases U:nA (cZ c c.length).1 with
   |none=>
    rw[U] at n aa;unfold pj at n;have O :=aB n;clear n U s b1 b2 b3 b4 b5 V;go_wp2_with (first|(go_at_call 102;refine O.u.mono ?_;clear O;rintro e w9 ⟨rfl,J⟩;have ai:=aB (aI.u.trans (J.aL (TT B (by omega)) (λk e=>by omega)));clear J)|fail)
    go_ret2
    exact⟨by rw[aa.u];rfl,ai.u⟩
   |some a'=>
    rw[U] at n aa;unfold pj at n;have O :=aB n;clear n U s b1 b2 b3 b4 b5 V;go_wp2_with (first|(go_at_call 102;refine O.u.mono ?_;clear O;rintro e w9 ⟨rfl,J⟩;have ai:=aB (aI.u.trans (J.aL (TT B (by omega)) (λk e=>by omega)));clear J)|fail)
    go_ret2
    exact⟨by rw[aa.u];rfl,ai.u⟩
theorem MF (c:List ag)(a:Option Addr)(cap b f:Nat)(W:ax)(o:0<c.length->a=some ⟨b,f,none⟩/\dV W b f c)(m:0<c.length->b<W.heap.size)(l:c.length<=cap)(p:(Lib.join c [32]).length<=1073741824)(q:c.length<=1073741824):
 Calls prog 144 #[.slice a c.length cap,.string ⟨#[32]⟩] W λe i=>e= .returned (.string ⟨(Lib.join c [32]).toArray⟩)/\Below W.heap.size W i :=by
 by_cases h:0<c.length
 ·obtain⟨rfl,n⟩:=o h;have j:(c.map λx=>(⟨x.toArray⟩:az)).map (λy:az=>y.data.toList)=c:=by rw[WT];exact(Xl (λx _=>rfl)).trans (abe c)
  have:=Any.strings_Join Tryz.H_ Tryz.tE b f cap (c.map λx=>(⟨x.toArray⟩:az)) ⟨#[32]⟩ W (λk x d=>by
   rw[UG] at d;cases g:c[k]? with
   |none=>rw[g] at d;cases d
   |some y=>rw[g] at d;cases d;exact n k y g) (m h) (by rw[TR];omega) (by rw[TR];exact l) (by rw[j];show(Lib.join c [32]).length<=_;omega)
  rw[TR,j] at this;exact this
 ·have:c=[]:=Vp (by omega);subst this;refine(Any.strings_Join_none Tryz.H_ Tryz.tE a cap ⟨#[32]⟩ W).mono ?_;rintro e i ⟨rfl,rfl⟩;exact⟨rfl,TF _ _⟩
def mP (name first all b:ag)(a:UInt8):Option ag:=if a=64 then some name else if a=60 then some first else if a=94 then some all else if a=42 then some b else none
structure rM (nb f al:Nat)(name:ag)(ph:Bool)(v1 v2:ay)(first all stem:ag)(W:ax):Prop where
 u_:aG W nb 197 [aK name,.bool ph,v1,v2,aK stem]
 first:aG W f 9 [aK first]
 all:aG W al 9 [aK all]
variable {d j l:ax}
theorem rM.aE {nb f:Nat}{name first all:ag}{g:Bool}{v1:ay}{W:ax}(h:rM nb f a name g v1 b first all c W)(e:Below W.heap.size W d):rM nb f a name g v1 b first all c d :=⟨h.u_.aE e,h.first.aE e,h.all.aE e⟩
def uU (a f b:Nat):ay:= .func (.func 145) #[] #[.pointer (some ⟨a,0,none⟩),.pointer (some ⟨f,0,none⟩),.pointer (some ⟨b,0,none⟩)]
theorem Q8 (c:ky)(t f p H:Nat)(name first all b:ag)(M:Bool)(v1 C:ay)(T:t<H)(Q:f<H)(S:p<H)(R:H<=c.r)(U:H<=c.mm)(K:name.length<=1073741824)(L:first.length<=1073741824)(J:all.length<=1073741824)(D:b.length<=1073741824):
 qE c (uU t f p) (mP name first all b) (rM t f p name M v1 C first all b):=by
 refine⟨⟨_,_,rfl,Yi YO (by kernel_rfl) rfl,λW m a=> ?_⟩,λW P h v=>⟨h.u_.tn v (by omega),h.first.tn v (by omega),h.all.tn v (by omega)⟩⟩;show Calls prog 145 #[.int .u8 a.toNat,.pointer (some ⟨t,0,none⟩),.pointer (some ⟨f,0,none⟩),.pointer (some ⟨p,0,none⟩)] W _;have B:=m.u_.cell? (i:=0) rfl;have G:=m.u_.cell? (i:=4) rfl;have O:=m.first.cell? (i:=0) rfl;have A:=m.all.cell? (i:=0) rfl;have d:∀(k:UInt8),a≠k->(((a.toNat:Nat):Int)==((k.toNat:Nat):Int))=false:=λk F=>by rw[TQ];exact λe=>F (V6.1 (by omega))
 unfold aK at B G O A;clear m;have key:∀(l:ag) (ok:Bool),mP name first all b a=(if ok then some l else none)->l.length<=1073741824->(∃(x :ag) (z :Bool),(.returned (.tuple #[.string ⟨l.toArray⟩,.bool ok]):Ending)= .returned (.tuple #[.string ⟨x.toArray⟩,.bool z])/\mP name first all b a=(if z then some x else none)/\x.length<=1073741824)/\Below W.heap.size W W:=λl ok e I=>⟨⟨l,ok,rfl,e,I⟩,TF _ _⟩;have o:=aB key;clear key;by_cases g:a=64
 ·have E:Hid (mP name first all b a=some name):=by rw[g];rfl
  have s:(((a.toNat:Nat):Int)==64)=true:=by rw[g];rfl
  go_enter YO,Y6;go_wp2_with fail
  go_ret2
  exact o.u name true E.u K
 by_cases j:a=60
 ·have E:Hid (mP name first all b a=some first):=by rw[j];rfl
  have s:(((a.toNat:Nat):Int)==64)=false:=d 64 g;have w:(((a.toNat:Nat):Int)==60)=true:=by rw[j];rfl
  go_enter YO,Y6;go_wp2_with fail
  go_ret2
  exact o.u first true E.u L
 by_cases n:a=94
 ·have E:Hid (mP name first all b a=some all):=by rw[n];rfl
  have s:(((a.toNat:Nat):Int)==64)=false:=d 64 g;have w:(((a.toNat:Nat):Int)==60)=false:=d 60 j;have y:(((a.toNat:Nat):Int)==94)=true:=by rw[n];rfl
  go_enter YO,Y6;go_wp2_with fail
  go_ret2
  exact o.u all true E.u J
 by_cases q:a=42
 ·have E:Hid (mP name first all b a=some b):=by rw[q];rfl
  have s:(((a.toNat:Nat):Int)==64)=false:=d 64 g;have w:(((a.toNat:Nat):Int)==60)=false:=d 60 j;have y:(((a.toNat:Nat):Int)==94)=false:=d 94 n;have N:(((a.toNat:Nat):Int)==42)=true:=by rw[q];rfl
  go_enter YO,Y6;go_wp2_with fail
  go_ret2
  exact o.u b true E.u D
 ·have E:Hid (mP name first all b a=none):=by
   show mP name first all b a=none;unfold mP;rw[TJ g,TJ j,TJ n,TJ q]
  have s:(((a.toNat:Nat):Int)==64)=false:=d 64 g;have w:(((a.toNat:Nat):Int)==60)=false:=d 60 j;have y:(((a.toNat:Nat):Int)==94)=false:=d 94 n;have N:(((a.toNat:Nat):Int)==42)=false:=d 42 q;go_enter YO,Y6;go_wp2_with fail
  go_ret2
  exact o.u [] false E.u (by simp)
theorem KP (name k:ag)(j:Bool)(c:List ag)(a am:Option Addr)(cap b q i h:Nat)(W:ax)(o:0<c.length->a=some ⟨b,q,none⟩/\dV W b q c)(l:0<c.length->b<W.heap.size)(G:c.length<=cap)(H:(Lib.join c [32]).length<=1073741824)(I:c.length<=1073741824):
 Calls prog 93 #[rm name j (.slice a c.length cap) (.slice am i h) k] W λe y=>∃E f A,e= .returned (uU E f A)/\rM E f A name j (.slice a c.length cap) (.slice am i h) (c.headD []) (Lib.join c [32]) k y /\Below W.heap.size W y :=by
 have D:(W.alloc (.cells #[aK name,.bool j,.slice a c.length cap,.slice am i h,aK k] 197)).heap.size=W.heap.size+1:=TM _ _;have C:=(TF W.heap.size W).alloc ak (.cells #[aK name,.bool j,.slice a c.length cap,.slice am i h,aK k] 197);have z:=aG.bA W 197 [aK name,.bool j,.slice a c.length cap,.slice am i h,aK k];have d:Hid (∀x:ay,Below W.heap.size W ((W.alloc (.cells #[aK name,.bool j,.slice a c.length cap,.slice am i h,aK k] 197)).alloc (.cells #[x] 9))/\aG ((W.alloc (.cells #[aK name,.bool j,.slice a c.length cap,.slice am i h,aK k] 197)).alloc (.cells #[x] 9)) W.heap.size 197 [aK name,.bool j,.slice a c.length cap,.slice am i h,aK k]/\aG ((W.alloc (.cells #[aK name,.bool j,.slice a c.length cap,.slice am i h,aK k] 197)).alloc (.cells #[x] 9)) (W.heap.size+1) 9 [x]):=λx=>by have w:=aG.bA (W.alloc (.cells #[aK name,.bool j,.slice a c.length cap,.slice am i h,aK k] 197)) 9 [x];rw[D] at w;exact⟨C.alloc (by omega) _,z.alloc _,w⟩
 have p:=aB (λ(Z:ax) (B:Below W.heap.size W Z)=>MF c a cap b q Z (λe=>⟨(o e).1,(o e).2.aL B (l e)⟩) (λe=>T7 (l e) B.size) G H I);clear C z D;unfold rm
 match c,o,l,d,p with
 |[],_,_,d,p=>
  unfold aK at*;dsimp only[List.length_nil,List.headD_nil] at*;go_enter func93,ntmps93;go_wp2_with (first|(go_at_call 144;refine(p.u _ (d.u (.string ⟨#[]⟩)).1).mono ?_;rintro e r ⟨rfl,g⟩;have t:=aB (rM.mk (((d.u (.string ⟨#[]⟩)).2.1.aE g).alloc (.cells #[.string ⟨(Lib.join [] [32]).toArray⟩] 9)) (((d.u (.string ⟨#[]⟩)).2.2.aE g).alloc (.cells #[.string ⟨(Lib.join [] [32]).toArray⟩] 9)) (aG.bA r 9 [.string ⟨(Lib.join [] [32]).toArray⟩]));have s:=aB (((d.u (.string ⟨#[]⟩)).1.trans (g.mono (d.u (.string ⟨#[]⟩)).1.size)).alloc (by have:=g.size;have:=(d.u (.string ⟨#[]⟩)).1.size;omega) (.cells #[.string ⟨(Lib.join [] [32]).toArray⟩] 9));clear g)|fail)
  go_ret;exact⟨_,_,_,rfl,t.u,s.u⟩
 |x::m,o,l,d,p=>
  obtain⟨rfl,v⟩:=o (by simp);have N:=aB v;have F:W.cell? ⟨b,q,none⟩=some (aK x):=v 0 x rfl;have M:=l (by simp);clear o l v;have K:(0:Int)<((x::m).length:Nat):=by simp only[TK];omega
  unfold aK at*;dsimp only[List.headD_cons] at*;generalize J:(x::m).length=n at*;have L:=aB F;go_enter func93,ntmps93;go_wp2_with (first|(go_at_call 144;refine(p.u _ (d.u (.string ⟨x.toArray⟩)).1).mono ?_;rintro e r ⟨rfl,g⟩;have t:=aB (rM.mk (((d.u (.string ⟨x.toArray⟩)).2.1.aE g).alloc (.cells #[.string ⟨(Lib.join (x::m) [32]).toArray⟩] 9)) (((d.u (.string ⟨x.toArray⟩)).2.2.aE g).alloc (.cells #[.string ⟨(Lib.join (x::m) [32]).toArray⟩] 9)) (aG.bA r 9 [.string ⟨(Lib.join (x::m) [32]).toArray⟩]));have s:=aB (((d.u (.string ⟨x.toArray⟩)).1.trans (g.mono (d.u (.string ⟨x.toArray⟩)).1.size)).alloc (by have:=g.size;have:=(d.u (.string ⟨x.toArray⟩)).1.size;omega) (.cells #[.string ⟨(Lib.join (x::m) [32]).toArray⟩] 9));clear g)|fail)
  go_ret;exact⟨_,_,_,rfl,t.u,s.u⟩
structure cA where
 name:ag
 ph:Bool
 aF:List ag
 stem:ag
 aH:List (ag×Nat)
def jw (N:ag->Nv)(e:UInt8->Option ag):List (ag×Nat)->Nat->List ag->(Nat×Nat)⊕(Nat×List ag)->Prop
 |[],k,b,a=>a= .inr (k,b)|c::f,k,b,a=>∃d:Er,bM N e [] 0 [] c.1 d/\(if d.er≠0 then a= .inl (d.er,c.2) else if Mk.cut d.bE=[] then jw N e f k b a else jw N e f (k+1) (if k+1<=500 then b++[d.bE] else b) a)
def cA.sg (x:cA):UInt8->Option ag:=mP x.name (x.aF.headD []) (Lib.join x.aF [32]) x.stem
def iV (N:ag->Nv):List cA->Nat->List bP->(Nat×Nat)⊕(Nat×List bP)->Prop
 |[],k,b,a=>a= .inr (k,b)
 |x::d,k,b,a=>∃G,jw N x.sg x.aH k [] G/\(match G with
  | .inl e=>a= .inl e
  | .inr (f,c)=>iV N d f (b++[⟨x.name,x.ph,x.aF,x.stem,c⟩]) a)
def qB (W:ax)(b c:Nat)(d:List (ag×Nat)):Prop:=∀(a:Nat) (x:ag×Nat),d[a]?=some x->W.cell? ⟨b,c+a*2,none⟩=some (aK x.1)/\W.cell? ⟨b,c+a*2+1,none⟩=some (.int .i64 (x.2:Int))
theorem qB.aL {W:ax}{b L:Nat}{c:List (ag×Nat)}(h:qB W b a c)(g:Below L W d)(e:b<L):qB d b a c:=λi x f=>⟨(g.cell (p:=⟨b,_,none⟩) e).trans (h i x f).1,(g.cell (p:=⟨b,_,none⟩) e).trans (h i x f).2⟩
def Bc (W:ax)(L b h:Nat)(x:cA):Prop:=∃(d am:Option Addr) (f g a no c e:Nat),
 AL W b h [aK x.name,.bool x.ph,.slice d x.aF.length f,.slice am x.aH.length g,aK x.stem]/\x.aF.length<=f/\(0<x.aF.length->d=some ⟨a,no,none⟩/\a<L/\dV W a no x.aF)/\(0<x.aH.length->am=some ⟨c,e,none⟩/\c<L/\qB W c e x.aH)
def pF (w:ax)(L:Nat)(x:bP)(c:List ay):Prop:=∃(e d am:Option Addr) (j k b no a co h g:Nat),
 c=[aK x.name,.bool x.ph,.slice e x.aF.length j,.slice am h g,aK x.stem,.slice d x.aH.length k]/\(0<x.aF.length->e=some ⟨b,no,none⟩/\b<L/\dV w b no x.aF)/\
 (0<x.aH.length->d=some ⟨a,co,none⟩/\a<w.heap.size/\(∃i f,w.heap[a]?=some (.cells i 9 f))/\dV w a co x.aH)
theorem EF {w:ax}{b:Nat}(h:d.heap[b]?=w.heap[b]?):d.cell? ⟨b,a,none⟩=w.cell? ⟨b,a,none⟩:=by unfold World.cell?;simp only;rw[h]
variable {f:List ag}
theorem dV.same {w:ax}{b:Nat}(h:dV w b a f)(c:d.heap[b]?=w.heap[b]?):dV d b a f:=λg x e=>(EF c).trans (h g x e)
theorem pF.same {w:ax}{L:Nat}{x:bP}{c:List ay}(h:pF w L x c)(B:w.heap.size<=d.heap.size)(s:∀k,k<L->d.heap[k]?=w.heap[k]?)(r:∀(k:Nat) (f:Array ay) (a:Nat×Nat),w.heap[k]?=some (Obj.cells f 9 a)->d.heap[k]?=w.heap[k]?):pF d L x c:=by
 obtain⟨o,n,am,y,u,m,no,j,co,p,A,e,v,t⟩:=h;refine⟨o,n,am,y,u,m,no,j,co,p,A,e,λq=> ?_,λq=> ?_⟩
 ·obtain⟨i,g,b⟩:=v q;exact⟨i,g,b.same (s m g)⟩
 ·obtain⟨i,g,⟨f,a,b⟩,z⟩:=t q;have l:=r j f a b;exact⟨i,by omega,⟨f,a,l.trans b⟩,z.same l⟩
def jL (w:ax)(L:Nat):List bP->List ay->Prop
 |[],c=>c=[]
 |x::d,c=>∃a b,c=a++b/\pF w L x a/\jL w L d b
theorem jL.same {w:ax}{L:Nat}(j:w.heap.size<=d.heap.size)(g:∀k,k<L->d.heap[k]?=w.heap[k]?)(f:∀(k:Nat) (n:Array ay) (m:Nat×Nat),w.heap[k]?=some (Obj.cells n 9 m)->d.heap[k]?=w.heap[k]?):∀(i:List bP) (c:List ay),jL w L i c->jL d L i c
 |[],_,h=>h
 |_::o,_,⟨a,b,e,p,l⟩=>⟨a,b,e,pF.same p j g f,jL.same j g f o b l⟩
theorem jL.fO {w:ax}{L:Nat}:∀(g:List bP) (c:List ay) (x:bP) (d:List ay),jL w L g c->pF w L x d->jL w L (g++[x]) (c++d)
 |[],c,x,d,h,f=>by have:c=[]:=h;subst this;exact⟨d,[],by simp,f,rfl⟩
 |y::k,_,x,d,⟨a,b,e,j,i⟩,f=>by subst e;exact⟨a,b++d,by simp,j,jL.fO k b x d i f⟩
theorem pF.length {w:ax}{L:Nat}{x:bP}{c:List ay}(h:pF w L x c):c.length=6:=by obtain⟨d,a,am,j,f,i,no,b,co,e,g,rfl,-⟩:=h;rfl
theorem jL.at {w:ax}{L:Nat}:∀(i:List bP) (c:List ay) (_:jL w L i c) (f:Nat) (h:f<i.length),∃a,pF w L i[f] a/\∀d,d<6->c[f*6+d]?=a[d]?
 |x::l,_,⟨a,b,e,g,k⟩,0,_=>by subst e;refine⟨a,g,λd j=> ?_⟩;rw[YP,Ur,UZ (by rw[g.length];exact j)]
 |x::l,_,⟨a,b,e,g,k⟩,f+1,h=>by subst e;obtain⟨n,o,m⟩:=jL.at l b k f (by simpa using h);refine⟨n,o,λd j=> ?_⟩;rw[Uq (by rw[g.length];omega),g.length,show (f+1)*6+d-6=f*6+d by omega];exact m d j
 |[],_,_,_,h=>by simp at h
theorem Tryz.Od:(Tryz.prog.info? 206).map (λa=>(a.zero,a.size,a.bytes))=some (some (.agg #[.string ⟨#[]⟩,.bool false,.slice none 0 0,.slice none 0 0,.string ⟨#[]⟩,.slice none 0 0]),6,112):=by kernel_rfl
structure A0 (x:cA):Prop where
 aH:x.aH.length<=2000000000
 Ts:∀c∈x.aH,c.1.length<=1073741824
 join:(Lib.join x.aF [32]).length<=1073741824
 aF:x.aF.length<=1073741824
 first:(x.aF.headD []).length<=1073741824
 name:x.name.length<=1073741824
 stem:x.stem.length<=1073741824
structure uW (W:ax)(N:ag->Nv)(aQ:List cA)(i k:Nat)(aC:List bP)(sv:ay)(wr:ax):Prop where
 aL:Below W.heap.size W wr
 bI:∃c,wr.ownsRow W.heap.size 206 6 sv aC.length c/\jL wr W.heap.size aC c
 kZ:∀R,iV N (aQ.drop i) k aC R->iV N aQ 0 [] R
 len:aC.length=i
structure vh (ws:ax)(N:ag->Nv)(sg:UInt8->Option ag)(aH:List (ag×Nat))(k0 j k:Nat)(aC:List ag)(cv:ay)(w:ax):Prop where
 aL:Below ws.heap.size ws w
 bI:w.ownsRow ws.heap.size 9 1 cv aC.length (aC.map aK)
 kZ:∀R,jw N sg (aH.drop j) k aC R->jw N sg aH k0 [] R
 len:aC.length<=j
theorem uW.next {W:ax}{N:ag->Nv}{D:List cA}{k H no:Nat}{w:List bP}{v6:ay}{x:cA}{c:List ay}{G:Obj}{J C am:Option Addr}(h:uW W N D g k w b j)(T:D.drop g=x::D.drop (g+1))(i:Below j.heap.size j d)(U:jw N x.sg x.aH k [] (.inr (r,f)))(I:d.ownsRow H 9 1 (.slice J f.length m) f.length (f.map aK))(R:jL j W.heap.size w c)(K:j.ownsRow W.heap.size 206 6 b w.length c)(z:(d.alloc G).grownBy l b.ownBlock)(ab:l.ownsRow W.heap.size 206 6 v6 (w.length+1) (c++[aK x.name,.bool x.ph,.slice C x.aF.length o,.slice am n p,aK x.stem,.slice J f.length m]))(u:0<x.aF.length->C=some ⟨a,no,none⟩/\a<W.heap.size/\dV W a no x.aF):
 uW W N D (g+1) r (w++[⟨x.name,x.ph,x.aF,x.stem,f⟩]) v6 l:=by
 have ah:(d.alloc G).heap.size=d.heap.size+1:=TM _ _;have ae:=h.aL.size;have af:=i.size;have ai:=z.size;have key:∀q,q<d.heap.size->some q≠b.ownBlock->l.heap[q]?=d.heap[q]?:=λq Y h2=>(z.block q (by omega) h2).trans (VU d G q Y);have O:∀q,q<W.heap.size->some q≠b.ownBlock:=λq s e=>by have:=(K.lt q e.symm).1;omega
 have L:∀(q:Nat) (t:Array ay) (v:Nat×Nat),q<d.heap.size->d.heap[q]?=some (Obj.cells t 9 v)->some q≠b.ownBlock:=λq t v s A e=>by obtain⟨c1,f1,E⟩:=eN K q e.symm;rw[i.block q (K.lt q e.symm).2,E] at A;cases A
 have F:Below W.heap.size W l:=h.aL.trans ⟨z.os.trans i.os,z.tape.trans i.tape,z.output.trans i.output,by omega,λq s=>(key q (by omega) (O q s)).trans (i.block q (by omega))⟩;refine⟨F,⟨_,by rw[TE];exact ab,jL.fO _ _ _ _ (jL.same (by omega) (λq s=>(key q (by omega) (O q s)).trans (i.block q (by omega))) (λq t v e=> ?_) _ _ R) ?_⟩,λZ V=>h.kZ Z (by rw[T];exact⟨_,U,V⟩),by rw[TE,h.len];rfl⟩
 ·have s:q<j.heap.size:=(TN.1 e).1;have e' :d.heap[q]?=some (Obj.cells t 9 v):=(i.block q s).trans e;exact(key q (by omega) (L q t v (by omega) e')).trans (i.block q s)
 ·by_cases M:0<f.length
  ·obtain⟨B,cap,ac,ad,P⟩:=d_ I M;cases ac;obtain⟨t,v,A⟩:=eN I B rfl;have E:=key B P (L B t v P A);refine⟨C,_,am,o,m,a,no,B,0,n,p,rfl,λe=>⟨(u e).1,(u e).2.1,(u e).2.2.aL F (u e).2.1⟩,λ_=>⟨rfl,by omega,⟨t,v,E.trans A⟩,λaa y S=> ?_⟩⟩;rw[EF E,Ur];obtain⟨Q,X⟩:=TZ.1 S;rw[kI I aa (by simpa using Q),Ut,X]
  ·exact⟨C,J,am,o,m,a,no,0,0,n,p,rfl,λe=>⟨(u e).1,(u e).2.1,(u e).2.2.aL F (u e).2.1⟩,λe=>absurd e M⟩
theorem P0 (a b:ag)(d:Bool)(x y z:Option Addr)(i e f h j g:Nat):∀u∈[Value.string ⟨a.toArray⟩,.bool d,.slice x i e,.slice y f h,.string ⟨b.toArray⟩,.slice z j g],u.oneCell' =true:=λu c=>by simp only[Ue,Vl,Xm] at c;rcases c with rfl|rfl|rfl|rfl|rfl|rfl<;>rfl
def Rx (W:ax)(N:ag->Nv)(g:List cA)(e:Ending)(a :ax):Prop:=∃b,iV N g 0 [] b/\Below W.heap.size W a /\(match b with| .inl (h,i)=>e= .returned (.tuple #[.slice none 0 0,.int .i64 (h:Nat),.int .i64 (i:Nat)])| .inr (k,f)=>(500<k/\e= .returned (.tuple #[.slice none 0 0,.int .i64 5,.int .i64 0]))\/(k<=500/\∃d c,e= .returned (.tuple #[d,.int .i64 0,.int .i64 0])/\a.ownsRow W.heap.size 206 6 d f.length c/\jL a W.heap.size f c))
theorem KI (f:List cA)(a:Option Addr)(cap I o0 nm:Nat)(L:NL)(W:ax)(ha:0<f.length->a=some ⟨I,o0,none⟩)(a8:I<W.heap.size)(hr:∀d (h:d<f.length),Bc W W.heap.size I (o0+d*5) f[d])(hN:bC W nm (iE L))(bm:kT L)(hg:c_ W)(hl:f.length<=1000)(hB:∀x∈f,A0 x):
 Calls prog 66 #[.slice a f.length cap,.map (some nm)] W (Rx W (cW L) f):=by
 obtain⟨i0,a_,aY,be,bo⟩:=UF Tryz.Od;obtain⟨i1,bf,bg,bb,a1⟩:=UF Tryz.kJ;have HA:=aB ha;have HR:=aB hr;have HB:=aB hB;have HN:=aB hN;have HG:=aB hg;clear ha hr hB hN hg;have az:Hid (uW W (cW L) f 0 0 [] (.slice none 0 0) W):=⟨TF _ _,⟨[],Uk _ _ _ _,rfl⟩,λn h=>h,rfl⟩;go_enter func66,ntmps66;go_wp2_with fail
 go_loopw [7,8,19] (λsv kv iv wr=>∃(d k:Nat) (aC:List bP),iv= .int .i64 d/\kv= .int .i64 k/\d<=f.length/\k<=d*2000000000/\Hid (uW W (cW L) f d k aC sv wr)) (λ_ _ iv _=>f.length-aS iv)
 case atStart=>exact⟨0,0,[],rfl,rfl,by omega,by omega,az⟩
 case round=>
  clear az;obtain⟨d,k,aC,rfl,rfl,bw,hk,w⟩:=hrel;by_cases hi:d<f.length
  ·have t1:(d:Int)<f.length:=by omega
   have t0:(0:Int)<=(d:Int):=by omega
   obtain rfl:=HA.u (by omega);obtain⟨G,am,H,J,nb,no,mb,mo,aw,a3,aU,gp⟩:=HR.u d hi;have bn:=HB.u f[d] (TV hi);have N:=w.u.aL;have aI:f.drop d=f[d]::f.drop (d+1):=T2 hi;have F:∀(g:Nat) (u:ay),[aK f[d].name,.bool f[d].ph,.slice G f[d].aF.length H,.slice am f[d].aH.length J,aK f[d].stem][g]?=some u->wr.cell? ⟨I,o0+d*5+g,none⟩=some u:=λg u K=>(N.cell (p:=⟨I,_,none⟩) a8).trans (aw g u K);have g0:wr.cell? ⟨I,o0+d*5,none⟩=some (aK f[d].name):=F 0 _ rfl;have g1:=F 1 _ rfl;have g2:=F 2 _ rfl;have g3:=F 3 _ rfl;have g4:=F 4 _ rfl;have ar:=aB aI;clear F aw aI;generalize hx:f[d]=x at*;obtain⟨name,m,i,j,b⟩:=x;obtain⟨m1,m2,m3,m4,m5,m6,m7⟩:=bn;dsimp only at*;have M:=aB aU;have bi:=aB gp;clear aU gp;have U:=(TF wr.heap.size wr).alloc ak (.cells #[aK name,.bool m,.slice G i.length H,.slice am b.length J,aK j] 197);have aP:=aB U;have RB:=aB (aG.bA wr 197 [aK name,.bool m,.slice G i.length H,.slice am b.length J,aK j]);have CG:=aB (KP name j m i G am H nb no b.length J (wr.alloc (.cells #[aK name,.bool m,.slice G i.length H,.slice am b.length J,aK j] 197)) (λe=>⟨(M.u e).1,(M.u e).2.2.aL (N.tr U) (M.u e).2.1⟩) (λe=>T7 (M.u e).2.1 (TT N.size U.size)) a3 m3 m4);have bd:=N.size;clear U N;unfold rm aK at*;go_wp2_with (first|(go_at_call 93;refine CG.u.mono ?_;clear CG;rintro e z ⟨s1,s2,s3,rfl,aM,ah⟩;have ab:=aB aM;have ao:=aB (aP.u.tr ah);have aN:=aB (RB.u.aE ah);have d3:=aN.u.cell? (i:=3) rfl;unfold uU;clear aM ah)|fail)
   have aa:=aB (w.u.aL.trans (ao.u.mono bd));have ba:=aB (HN.u.aL aa.u HN.u.lt);have bp:=aB (HG.u.aE aa.u);have aZ:=ab.u.u_.lt;have a4:=ab.u.first.lt;have aW:=ab.u.all.lt;have al:Hid (vh z (cW L) (cA.sg ⟨name,m,i,j,b⟩) b k 0 k [] (.slice none 0 0) z):=⟨TF _ _,Uk _ _ _ _,λn h=>h,TD _⟩;go_loopw [8,12,28] (λkv cv jv wi=>∃(g l :Nat) (t :List ag),jv= .int .i64 g/\kv= .int .i64 l /\g<=b.length/\l <=k+g/\Hid (vh z (cW L) (cA.sg ⟨name,m,i,j,b⟩) b k g l t cv wi)) (λ_ _ jv _=>b.length-aS jv)
   case atStart=>exact⟨0,k,[],rfl,rfl,by omega,by omega,al⟩
   case round=>
    clear al;obtain⟨g,l,t,rfl,rfl,br,bs,o⟩:=hrel;by_cases K:g<b.length
    ·have u1:(g:Int)<b.length:=by omega
     have u0:(0:Int)<=(g:Int):=by omega
     obtain⟨rfl,a5,aO⟩:=bi.u (by omega);have a0:=aa.u.tr o.u.aL;obtain⟨ct,cl⟩:=aO.aL a0 a5 g b[g] (TH K);have aD:b.drop g=b[g]::b.drop (g+1):=T2 K;have ap:=m2 b[g] (TV K);have ad:=aB aD;clear aO aD;generalize hc:b[g]=c at*;obtain⟨P,D⟩:=c;dsimp only at ct cl ap;have p1:=(TF wr.heap.size wr).alloc ak (.cells #[aK P,.int .i64 (D:Int)] 202);have A:=o.u.aL.tr p1;have RC:=aB (aG.bA wr 202 [aK P,.int .i64 (D:Int)]);have a':=aB A;have CE:=aB (Cs nm (uU s1 s2 s3) L (cA.sg ⟨name,m,i,j,b⟩) _ P (wr.alloc (.cells #[aK P,.int .i64 (D:Int)] 202)) (λc h1 h2=>Q8 c s1 s2 s3 (wr.alloc (.cells #[aK P,.int .i64 (D:Int)] 202)).heap.size name (i.headD []) (Lib.join i [32]) j m _ _ (T7 aZ A.size) (T7 a4 A.size) (T7 aW A.size) h1 h2 m6 m5 m3 m7) (λW' hb=>ab.u.aE (A.tr hb)) bm (ba.u.aE A) (bp.u.aE A) ap);have bv:=o.u.len;clear p1 A;unfold uU aK at*;go_upto_region 12 with(first|(go_at_call 94;refine CE.u.mono ?_;clear CE;rintro e w4 ⟨a6,aq,rfl,bh,O⟩;have ac:=aB aq;have V:=aB (a'.u.tr O);have bt:=O.size;have bl:=aB (RC.u.aE O);have E:=aB (bT o.u.bI (λq r=>by have:=(o.u.bI.lt q r).2;exact(O.block q (by rw[TM];omega)).trans (VU wr _ q this)));have bu:=bl.u.cell? (i:=1) rfl;unfold lq;clear aq O)|fail)
     obtain⟨v,R,rf⟩:=a6;dsimp only at bh;dsimp only;by_cases av:R=0
     ·subst av;have B:Hid (Calls prog 95 #[.string ⟨v.toArray⟩] w4 λe w'=>e= .returned (.string ⟨(Mk.cut v).toArray⟩)/\Below w4.heap.size w4 w'):=sR ⟨v.toArray⟩ w4 (by show v.length<=_;omega);have u7:(l :Int)<=100000000000000:=by omega
      cases hcut:Mk.cut v with
      |nil=>
       rw[hcut] at B;have Y:=aB hcut;clear hcut;go_wp2_with (first|(go_at_call 95;refine B.u.mono ?_;clear B;rintro e w5 ⟨rfl,s⟩;have ae:Hid (vh z (cW L) (cA.sg ⟨name,m,i,j,b⟩) b k (g+1) l t u12 w5):=⟨V.u.tr s,bT E.u (λq r=>s.block q (E.u.lt q r).2),λn h=>o.u.kZ n (by rw[ad.u];exact⟨_,ac.u,by rw[TJ (by simp),TP Y.u];exact h⟩),by omega⟩;clear s)|fail)
       go_roundw
       case rel=>exact⟨g+1,l,t,by go_num,rfl,by omega,by omega,ae⟩
       case measure=>simp only[aS];omega
      |cons y ys=>
       have Y:Hid (¬Mk.cut v=[]):=by show ¬Mk.cut v=[];rw[hcut];simp
       rw[hcut] at B;clear hcut;by_cases h5:l +1<=500
       ·have u6:(l :Int)+1<=500:=by omega
        have aj:Hid (∀n,jw (cW L) (cA.sg ⟨name,m,i,j,b⟩) (b.drop (g+1)) (l +1) (t ++[v]) n->jw (cW L) (cA.sg ⟨name,m,i,j,b⟩) b k [] n):=λn h=>o.u.kZ n (by rw[ad.u];exact⟨_,ac.u,by rw[TJ (by simp),TJ Y.u,TP h5];exact h⟩);go_wp2_with (first|(go_at_call 95;refine B.u.mono ?_;clear B;rintro e w5 ⟨rfl,s⟩;have Z:=aB (V.u.tr s);have au:=aB (bT E.u (λq r=>s.block q (E.u.lt q r).2));have bz:=s.size;clear s)|(at_builtin;refine Uu _ rfl (.tmp 52) (.tmp 54) 30 rfl z.heap.size 9 i1 (.string ⟨#[]⟩) 1 16 UC bf bg bb a1 rfl (by decide) _ t.length _ rfl (T_ au.u _) ⟨_,0,none⟩ 1 1 [.string ⟨v.toArray⟩] rfl rfl (gw _ _ [_]) (uG _) (by unfold maxLen;omega) (by omega) (by have:=Z.u.size;rw[TM];omega) ?_;intro v6 w6 S T _ _;have aV:Hid (vh z (cW L) (cA.sg ⟨name,m,i,j,b⟩) b k (g+1) (l +1) (t ++[v]) v6 w6):=⟨(Z.u.alloc Z.u.size (.cells #[.string ⟨v.toArray⟩] 9)).trans ((Tn.grown (p:=λq=>z.heap.size<=q) T (λq r=>(au.u.lt q r).1)).aL (by have:=Z.u.size;rw[TM];omega) (λq r=>r)),by rw[TE,T'];exact S,aj.u,by rw[TE,T6];omega⟩;clear S T)|fail)
        go_roundw
        case rel=>exact⟨g+1,l +1,_,by go_num,by go_num,by omega,by omega,aV⟩
        case measure=>simp only[aS];omega
       ·have u6:¬(l :Int)+1<=500:=by omega
        have aj:Hid (∀n,jw (cW L) (cA.sg ⟨name,m,i,j,b⟩) (b.drop (g+1)) (l +1) t n->jw (cW L) (cA.sg ⟨name,m,i,j,b⟩) b k [] n):=λn h=>o.u.kZ n (by rw[ad.u];exact⟨_,ac.u,by rw[TJ (by simp),TJ Y.u,TJ h5];exact h⟩);go_wp2_with (first|(go_at_call 95;refine B.u.mono ?_;clear B;rintro e w5 ⟨rfl,s⟩;have ae:Hid (vh z (cW L) (cA.sg ⟨name,m,i,j,b⟩) b k (g+1) (l +1) t u12 w5):=⟨V.u.tr s,bT E.u (λq r=>s.block q (E.u.lt q r).2),aj.u,by omega⟩;clear s)|fail)
        go_roundw
        case rel=>exact⟨g+1,l +1,t,by go_num,by go_num,by omega,by omega,ae⟩
        case measure=>simp only[aS];omega
     ·have u5:¬(R:Int)=0:=by omega
      have a9:Hid (∃n,iV (cW L) f 0 [] n/\n= .inl (R,D)):=⟨.inl (R,D),w.u.kZ _ (by rw[ar.u];exact⟨.inl (R,D),o.u.kZ _ (by rw[ad.u];exact⟨_,ac.u,by rw[TP av]⟩),rfl⟩),rfl⟩;go_wp2_with fail
      go_region
      all_goals go_wp2_with fail
      all_goals go_ret3
      all_goals
       obtain⟨n,X,rfl⟩:=a9.u;exact⟨_,X,(aa.u.tr V.u).drew,rfl⟩
    ·have aR:g=b.length:=by omega
     subst aR;have u1:¬(b.length:Int)<b.length:=by omega
     have aJ:jw (cW L) (cA.sg ⟨name,m,i,j,b⟩) b k [] (.inr (l,t)):=o.u.kZ _ (by rw[Wm];rfl);have bj:=aB aJ;obtain⟨ca,cc,a2⟩:=gL o.u.bI;subst a2;have RW:=aN.u.aE o.u.aL;have d0:=RW.cell? (i:=0) rfl;have d1:=RW.cell? (i:=1) rfl;have d2:=RW.cell? (i:=2) rfl;have bq :=RW.cell? (i:=3) rfl;have d4:=RW.cell? (i:=4) rfl;obtain⟨c,C,Q⟩:=w.u.bI;have ai:=aB (ao.u.tr o.u.aL);have bc:=aB (bT C (λq r=>ai.u.block q (C.lt q r).2));have aX:=aB C;have af:=aB Q;have bB:=w.u.len;have bx:=ai.u.size;clear aJ RW C Q;go_wp2_with (first|(at_builtin;refine Uu _ rfl (.tmp 57) (.tmp 61) 133 rfl W.heap.size 206 i0 _ 6 112 underlying133 a_ aY be bo rfl (by decide) _ aC.length _ rfl (T_ bc.u _) ⟨_,0,none⟩ 1 1 [.string ⟨name.toArray⟩,.bool m,.slice G i.length H,.slice am b.length J,.string ⟨j.toArray⟩,.slice ca t.length cc] rfl rfl (gw _ _ _) (P0 _ _ _ _ _ _ _ _ _ _ _ _) (by unfold maxLen;omega) (by omega) (by rw[TM];omega) ?_;intro v6 w6 S T _ _;have a7:=aB (w.u.next (x:=⟨name,m,i,j,b⟩) ar.u ai.u bj.u o.u.bI af.u aX.u T S M.u);clear S T)|fail)
     go_roundw
     case rel=>exact⟨d+1,l,_,by go_num,rfl,by omega,by omega,a7⟩
     case measure=>simp only[aS];omega
  ·have bk:d=f.length:=by omega
   subst bk;have t1:¬(f.length:Int)<f.length:=by omega
   have X:iV (cW L) f 0 [] (.inr (k,aC)):=w.u.kZ _ (by rw[Wm];rfl);have aA:=aB X;obtain⟨c,C,Q⟩:=w.u.bI;have HO:=aB C;have af:=aB Q;clear X C Q;by_cases h5:500<k
   ·have u6:(500:Int)<(k:Int):=by omega
    go_wp2_with fail
    go_ret3
    exact⟨_,aA.u,w.u.aL,.inl ⟨h5,rfl⟩⟩
   ·have u6:¬(500:Int)<(k:Int):=by omega
    go_wp2_with fail
    go_ret3
    exact⟨_,aA.u,w.u.aL,.inr ⟨by omega,_,c,rfl,HO.u,af.u⟩⟩
