/- . -/
import Derived.Test.YtjelacjggijmfaaGreatDoorYWP3
import Derived.Laws.EntriesVeiled
set_option linter.all false
set_option maxHeartbeats 4000000
set_option maxRecDepth 100000
namespace Go.Proofs.YtjelacjggijmfaaGreatDoor
open Pl Mk Cp Proofs.Tryz
open RowKit MapKept ChangeMaps Maps
variable {b bC refs' d k:Nat}{l:dr}{f g:f'}{sv:az}{mk q:fv}{W Z i:ay}{SP:ay->Prop}{z:aj}
theorem GS{α β:Type}(f:α->β):∀(l:List α) (e:Nat),(l.eraseIdx e).map f=(l.map f).eraseIdx e
 |[],_=>rfl|_::_,0=>rfl|x::g,e+1=>by simp[List.eraseIdx,GS f g e]
section
variable {P:Program}{w:ay}{t v T ty:TypeId}
def bF.U5(h:bF w b (l++[(z,sv)]))(B:P.underlying t=some (.map v T))(u:P.underlying v=some .string):
 ∃m,(Builtin.delete_ #[t,v] ty #[.map (some b),aK z]).run P w=.ok (.tuple #[]) m/\bF m b l/\w.mapTurned m b:=by
 have⟨f,n,i,s,F,j⟩:=h
 have R:cG (l++[(z,sv)]) z≠none:=by unfold cG;simp only[ne_eq,ac0,ZW];intro O;exact absurd (O (z,sv) (by simp)) (by simp)
 rcases yn z f.toList (l++[(z,sv)]) 0 j with⟨y,_⟩|⟨g,V,a,y,p,q,D,Y⟩
 ·exact absurd y R
 have⟨H,U⟩:=Yl.1 q;have A:(f.toList.map (·.key))[l.length]?=some (aK z):=by have:=Yg (λx:List (az×az)=>(x.map (·.1))[l.length]?) j;simp only[k6]at this;have G:((λx:az×az=>x.1)∘λe:MapEntry=>(e.key,e.val))=(λe:MapEntry=>e.key):=rfl;rw[G]at this;rw[this];simp
 have M:(f.toList.map (·.key))[g]?=some (aK z):=by rw[Za,q,T',D]
 have C:g=l.length:=by have⟨X,J⟩:=Yl.1 M;have⟨S,N⟩:=Yl.1 A;exact(List.getElem_inj s.2.2).1 (J.trans N.symm)
 have r:g<f.size:=by simpa using H
 have I:(f.eraseIdxIfInBounds g).toList=f.toList.eraseIdx g:=by unfold Array.eraseIdxIfInBounds;rw[dif_pos r];simp
 have K:(f.eraseIdxIfInBounds g).size<=f.size:=by unfold Array.eraseIdxIfInBounds;rw[dif_pos r];simp
 rw[YO]at p;refine⟨setBlock w b (.map (f.eraseIdxIfInBounds g) n),?_,⟨f.eraseIdxIfInBounds g,n,by simp[setBlock,(X8.1 i).1],stamped_erase s g,Ye K F,?_⟩,f,n,_,_,i,rfl⟩
 ·simp[Builtin.delete_,run_underlying B,MapKept.run_getObj_map i,xa u,Instr.findKey,run_underlying u,p,MapKept.run_setObj_map _ i,Result.andThen,setBlock]
 rw[I];have E:(f.toList.eraseIdx g).map (λe=>(e.key,e.val))=(f.toList.map (λe=>(e.key,e.val))).eraseIdx g:=GS _ _ _;rw[E,j,C];simp[List.eraseIdx_append_of_length_le]
end
section
variable {P:Program} (w:ay) {A:kt} {rest:List Oper} {o:Oper} {a:Act} {Q:Exit->Act->ay->Prop}
def LQ(i:o.guard=none)(m x:Operand)(t c:TypeId)(j:o.op=Op.call {callee:=Callee.builtin Builtin.delete,args:= #[m,x],argTypes:= #[t,c]})(d:TypeId)(h:P.underlying t=some (.map c d))(n:P.underlying c=some .string)(b:Nat)(l:dr)(k:aj)(v:az)(u:a.eval m=.map (some b))(q:bF w b (l++[(k,v)]))(r:a.eval x=σ k)(p:∀e,bF e b l->w.mapTurned e b->wpList P A Q rest (a.put o.dst (.tuple #[])) e):wpList P A Q (o::rest) a w:=by refine K' i λz y=>?_;have⟨e,f,g,s⟩:=q.U5 (ty:=o.type) h n;unfold aK at f;unfold Oper.wp;simp[execOp,j,resolve,invoke,builtin,u,r,f,Result.andThen];exact y _ _ (p e g s)
end
structure lN where
 n:Nat
 s:Nat
 r:Nat
 m:Nat
 e:Nat
 l:Nat
 f:Nat
 nm:Nat
 mm:Nat
abbrev NL:=List (aj×Nv)
def lS(v:Nv):az:=.agg #[aK v.aU,.bool v.oA]
def ja(l:NL):dr:=l.map λx=>(x.1,lS x.2)
def di(l:NL)(k:aj):Nv:=((l.find? (λx=>x.1==k)).map (·.2)).getD qT
def yZ(l:NL)(k:aj):(cG (ja l) k).getD (lS qT)=lS (di l k):=by unfold cG ja di;rw[afH];have e:((λx:aj×az=>x.1==k)∘λx:aj×Nv=>(x.1,lS x.2))=λx=>x.1==k:=rfl;rw[e];cases List.find? (λx=>x.1==k) l<;>rfl
def dJ(a:fv):dr:=a.map λk=>(k,.agg #[])
def uZ:cG (dJ mk) z=if z∈mk then some (.agg #[]) else none:=by
 unfold cG dJ;rw[afH];have e:((λx:aj×az=>x.1==z)∘λz:aj=>(z,Value.agg #[]))=λx=>x==z:=rfl;rw[e];split
 ·rename_i h;cases f:List.find? (λx=>x==z) mk with|none=>exact absurd (ZW.1 f z h) (by simp)|some x=>rfl
 rename_i h;rw[ZW.2 (λx g=>by simp;exact λe=>h (e▸g))];rfl
def CZ(h:z∉mk):fh (dJ mk) z (.agg #[])=dJ (mk++[z]):=by
 induction mk with
 |nil=>rfl|cons x f g=>simp only[YD,not_or]at h;show(if x==z then _ else _)=_;rw[Yb (by simpa using λe=>h.1 e.symm)];show(x,Value.agg #[])::fh (dJ f) z (.agg #[])=_;rw[g h.2];rfl
structure fT(c:lN)(sv:az)(L:NL)(bC:Nat)(mk:fv)(W:ay):Prop where
 xw:aF W c.n 137 [.map (some c.nm)]
 zp:aF W c.s 199 [sv]
 fw:aF W c.r 3 [ι bC]
 qI:aF W c.m 140 [.map (some c.mm)]
 zs:aF W c.e 278 [.func (.func 195) #[] #[π c.s,π c.f]]
 zz:aF W c.l 278 [.func (.func 192) #[] #[π c.m,π c.e,π c.n]]
 jJ:aF W c.f 278 [.func (.func 194) #[] #[π c.r,π c.n,π c.l]]
 aX:bF W c.nm (ja L)
 kG:bF W c.mm (dJ mk)
 ne:c.nm≠c.mm
 fQ:dq W
 gr:0<c.r
def mw(c:lN)(W e:ay):Prop:=Tn (λk=>k=c.r\/k=c.mm) W e
def ug{t:TypeId}(h:aF W b t f)(i:bF W k l):b≠k:=λe=>by have⟨j,m,g,_⟩:=i;subst e;unfold aF at h;rw[h]at g;cases g
def On{t u:TypeId}(h:aF W b t f)(i:aF W k u g)(j:t≠u):b≠k:=λe=>by subst e;unfold aF at h i;rw[h]at i;cases i;exact j rfl
def wN{p:Nat->Prop}(h:W.mapTurned Z b)(g:p b):Tn p W Z:=by obtain⟨q,s,u,n,i,rfl⟩:=h;refine⟨rfl,rfl,rfl,by simp[setBlock],λk r j=>?_⟩;have:k≠b:=λe=>j (e▸g);simp[setBlock,Ne.symm this]
section
variable {c:lN}{L:NL}
def fT.next(h:fT c sv L bC mk W)(f:mw c W Z)(s:aF Z c.r 3 [ι refs'])(v:bF Z c.mm (dJ q)):fT c sv L refs' q Z:=by
 have d:∀{b:Nat} {t:TypeId} {n:f'},aF W b t n->t≠3->aF Z b t n:=λg u=>g.tn f (λe=>e.elim (On g h.fw u) (ug g h.kG));refine⟨d h.xw (by decide),d h.zp (by decide),s,d h.qI (by decide),d h.zs (by decide),d h.zz (by decide),d h.jJ (by decide),h.aX.tn f (λe=>e.elim (λe=>ug h.fw h.aX e.symm) h.ne),v,h.ne,?_,h.gr⟩;have⟨m,i⟩:=h.fQ;refine⟨m,?_⟩;rw[tq (a:=η 0 0) (f.block _ (ZO W _ i) (λe=>?_))]
 ·exact i
 obtain e|e:=e
 ·have p:0=c.r:=e;have:=h.gr;omega
 have p:0=c.mm:=e;have⟨y,x,j,_⟩:=h.kG;rw[<-p]at j;simp[World.cell?,j]at i
def fT.aD(h:fT c sv L bC mk W)(e:μ W Z):fT c sv L bC mk Z:=h.next (Tn.aD e) (h.fw.aD e) (h.kG.aD e)
end
def OY(m b f:Nat)(a:fv)(k:aj)(u:FrameMode)(W:ay)(p:aF W m 140 [.map (some f)])(n:aF W b 9 [σ k])(j:bF W f (dJ (a++[k]))):
 CallsD prog 193 #[π m,π b] u W λe r g=>r =u/\(e=.returned (.tuple #[])/\bF g f (dJ a)/\Tn (λq=>q=f) W g):=by
 have A:=p.cell? (i:=0) rfl;have z:=n.cell? (i:=0) rfl;have h:bF W f (dJ a++[(k,.agg #[])]):=by
  have:dJ (a++[k])=dJ a++[(k,.agg #[])]:=by unfold dJ;rw[Yy];rfl
  rw[<-this];exact j
 go_enter_d func193,ntmps193
 go_wp2_with (at_delete;refine LQ _ rfl _ _ 140 9 rfl 316 rW Yj f (dJ a) k (.agg #[]) rfl h rfl ?_;intro y s v)
 go_end0
 exact⟨rfl,s,wN v rfl⟩
structure sx(c:lN)(sv:az)(sg:UInt8->jj)(SP:ay->Prop):Prop where
 f:∃g caps,sv=.func (.func g) #[] caps/\(∀args w,(callFunc g args).run prog w=.ok (.enter g args) w)/\∀W,SP W->∀ch:UInt8,Calls prog g (#[.int .u8 ch.toNat]++caps) W λe w'=>(∃(p:aj) (ok:Bool),e=.returned (.tuple #[.string ⟨p.toArray⟩,.bool ok])/\sg ch=(if ok then some p else none)/\p.length<=1073741824)/\μ W w'
 fe:∀W W',SP W->mw c W W' ->SP W'
def mh(L:NL):Prop:=∀x∈L,x.2.aU.length<=1073741824
def Hp{L:NL}(h:mh L)(k:aj):(di L k).aU.length<=1073741824:=by
 unfold di;cases e:L.find? (λx=>x.1==k) with
 |none=>simp[qT]
 |some x=>exact h x (YV e)
def mB(e:Er):az:=.tuple #[.string ⟨e.bK.toArray⟩,ι e.er]
def vQ(c:lN)(b:az)(L:NL)(k:UInt8->jj)(j:ay->Prop)(d:Nat):Prop:=
 ∀(W:ay) (bC:Nat) (a:fv) (h:aj),fT c b L bC a W->j W->301<=bC+d->bC<=300->a.length<=bC->h.length<=1073741824->
  Calls prog 195 #[.string ⟨h.toArray⟩,.pointer (some ⟨c.s,0,none⟩),.pointer (some ⟨c.f,0,none⟩)] W λe i=>∃g:Er,b_ (di L) k a bC [] h g/\e=.returned (mB g)/\g.bK.length<=2000/\g.bC<=301/\(g.er=0->g.bC<=300)/\bC<=g.bC/\fT c b L g.bC a i /\mw c W i
def uY:(zeroValue 316).run prog W=.ok (.agg #[]) W:=by kernel_rfl
def y8:(zeroValue 307).run prog W=.ok (.agg #[ε,.bool false]) W:=by kernel_rfl
def IC(t:aA)(b:Bool)(w:ay):(Instr.field 307 (.agg #[.string t,.bool b]) 0).run prog w=.ok (.string t) w:=by simp[Instr.field,run_underlying underlying307,asAgg,part]
def TP(t:aA)(b:Bool)(w:ay):(Instr.field 307 (.agg #[.string t,.bool b]) 1).run prog w=.ok (.bool b) w:=by simp[Instr.field,run_underlying underlying307,asAgg,part]
section
variable {c:lN}{L:NL}{sg:UInt8->jj}
def Vd(b:Nat)(a:fv)(d:aj)(W:ay)(h:fT c sv L b a W)(f:d∈a):
 γ 192 #[σ d,π c.m,π c.e,π c.n] W (mB ⟨[],4,b⟩):=by
 have:=h.qI.cell? (i:=0) rfl;have j:cG (dJ a) d=some (.agg #[]):=by rw[uZ,Yd f]
 have g:bF (W.alloc (.cells #[σ d] 9)) c.mm (dJ a):=h.kG.aD (ak W _);have:=h.qI.lt;go_enter_defers func192,ntmps192
 go_wp2_with (at_lookup;refine nh _ rfl _ _ 140 rfl 9 316 rW Yj (.agg #[]) (uY) c.mm (dJ a) rfl g d rfl (.agg #[]) j ?_)
 exact⟨_,Y8 rfl _ _ _,rfl,(ak W _).alloc (by rw[X_];omega) _⟩
def SO(HE:vQ c sv L sg SP d)(O:sx c sv sg SP)(u:mh L)(bC:Nat)(a:fv)(name:aj)(W:ay)(h:fT c sv L bC a W)(X:SP W)(U:301<=bC+d)(N:bC<=300)(Q:a.length+1<=bC)(I:name∉a):
 Calls prog 192 #[σ name,π c.m,π c.e,π c.n] W λe T=>∃g:Er,b_ (di L) sg (a++[name]) bC [] (di L name).aU g/\e=.returned (mB g)/\g.bK.length<=2000/\g.bC<=301/\(g.er=0->g.bC<=300)/\bC<=g.bC/\fT c sv L g.bC a T/\mw c W T:=by
 have P:cG (dJ a) name=none:=by rw[uZ,Yb I]
 have A:μ W (W.alloc (.cells #[σ name] 9)):=ak W _;have q:μ W ((W.alloc (.cells #[σ name] 9)).alloc (.cells #[] 316)):=A.alloc (by rw[X_];omega) _;have D:=aC (h.aD q);have z:aF ((W.alloc (.cells #[σ name] 9)).alloc (.cells #[] 316)) W.heap.size 9 [σ name]:=(aF.bq W 9 [σ name]).alloc _;have:=h.qI.cell? (i:=0) rfl;have:=h.qI.lt;have:=h.fw.lt;have w:∀j,mw c ((W.alloc (.cells #[σ name] 9)).alloc (.cells #[] 316)) j->SP j:=λj b=>O.fe _ _ (O.fe _ _ X (Tn.aD q)) b;have l:Hid (∀j,bF j c.mm (fh (dJ a) name (.agg #[]))->World.mapTurned ((W.alloc (.cells #[σ name] 9)).alloc (.cells #[] 316)) j c.mm->fT c sv L bC (a++[name]) j):=λj s C=>(h.aD q).next (wN C (.inr rfl)) ((h.aD q).fw.tn (wN (p:=λk=>k=c.mm) C rfl) (ug (h.aD q).fw (h.aD q).kG)) (by rw[<-CZ I];exact s);have:=IC;have S:=ug z D.kG;go_enter_defers func192,ntmps192
 go_wp2_with (first|(at_lookup;refine nj _ rfl _ _ 140 rfl 9 316 rW Yj (.agg #[]) (uY) c.mm (dJ a) rfl (h.aD A).kG name rfl P ?_)|(at_mapUpdate;refine q_ _ rfl _ _ _ 140 rfl 9 316 rW Yj c.mm (dJ a) rfl D.kG (by unfold dJ maxLen;rw[Yk];omega) name rfl (.agg #[]) rfl ?_;intro j B x;have v:=aC (l _ B x);have J:=aC (wN (p:=λk=>k=c.r\/k=c.mm) x (.inr rfl));have:=v.zs.cell? (i:=0) rfl;have:=v.xw.cell? (i:=0) rfl;have E:=z.tn (wN (p:=λk=>k=c.mm) x rfl) S;have:=E.cell? (i:=0) rfl)|(at_lookup;refine nk _ rfl _ _ 137 rfl 9 307 ab2 Yj (lS qT) (y8) c.nm (ja L) rfl v.aX name rfl (lS (di L name)) (yZ L name) ?_;unfold lS aK)|(go_at_call 195;refine(HE _ bC (a++[name]) (di L name).aU v (w _ J) U N (by simpa using Q) (Hp u name)).mono ?_;rintro e y⟨g,M,rfl,o,R,Y,Z,G,H⟩;unfold mB))
 have V:=E.tn H (λe=>e.elim (λe=>by omega) S);refine leaves_cons (f:=193) (args:= #[π c.m,π W.heap.size]) (by simp) (by simp[go_sem]) ?_;refine(OY c.m W.heap.size c.mm a name .returning y G.qI V G.kG).mono ?_;rintro e u' w5⟨rfl,rfl,t,F⟩;have K:mw c y w5:=F.mono (λk e=> .inr e);exact⟨_,Y8 rfl _ _ _,g,M,rfl,o,R,Y,Z,G.next K (G.fw.tn F (ug G.fw G.kG)) t,(((Tn.aD q).trans J).trans H).trans K⟩
end
section
variable {c:lN}{L:NL}{sg:UInt8->jj}
def fT.count{k:Nat}(h:fT c sv L bC mk W):fT c sv L k mk (W.ψ c.r 0 (ι k))/\mw c W (W.ψ c.r 0 (ι k)):=by have f:mw c W (W.ψ c.r 0 (ι k)):=Tn.set W (η c.r 0) _ (.inl rfl);exact⟨h.next f (h.fw.set 0 _) (h.kG.setCell (a:=η c.r 0) (λe=>ug h.fw h.kG e.symm) _),f⟩
def Qv(X:vQ c sv L sg SP d)(H:sx c sv sg SP)(C:mh L)(bC:Nat)(a:fv)(w:aj)(W:ay)(h:fT c sv L bC a W)(K:SP W)(J:301<=bC+1+d)(u:bC<=300)(o:a.length<=bC):
 Calls prog 194 #[σ w,π c.r,π c.n,π c.l] W λe I=>∃f:Er,rJ (di L) sg a bC w f/\e=.returned (mB f)/\f.bK.length<=1073741824/\f.bC<=301/\(f.er=0->f.bC<=300)/\bC<=f.bC/\fT c sv L f.bC a I/\mw c W I:=by
 have z:((bC+1:Nat):Int)=(bC:Int)+1:=by push_cast;rfl
 have⟨j,q⟩:=h.count (k:=bC+1);rw[z]at j q;have:=h.fw.cell? (i:=0) rfl;have:=h.fw.frozen 0;have M:=j.fw.cell? (i:=0) rfl;rw[z]at M;have:=j.xw.cell? (i:=0) rfl;have:=j.zz.cell? (i:=0) rfl;have:=IC;have:=TP;have:IntKind.wrap .i64 ((bC:Int)+1)=(bC:Int)+1:=wrap_small (by omega) (by omega);by_cases v:300<bC+1
 ·have:(300:Int)<bC+1:=by omega
  go_in;go_wp2
  go_ret2
  exact⟨⟨[],5,bC+1⟩,.inl ⟨v,rfl⟩,rfl,by simp,by show bC+1<=301;omega,λe=>by simp at e,l' _,j,q⟩
 have:¬(300:Int)<bC+1:=by omega
 by_cases p:(di L w).oA=true
 ·have m:lS (di L w)=.agg #[.string ⟨(di L w).aU.toArray⟩,.bool true]:=by unfold lS aK;rw[p]
  by_cases s:w∈a
  ·have y:=Vd (bC+1) a w _ j s;go_in;go_wp2_with (first|(at_lookup;refine nk _ rfl _ _ 137 rfl 9 307 ab2 Yj (lS qT) (y8) c.nm (ja L) rfl j.aX w rfl _ ((yZ L w).trans m) ?_)|(go_at_call 192;refine κ y λY F=>?_;unfold mB))
   go_ret2
   exact⟨⟨[],4,bC+1⟩,.inr (.inl ⟨v,p,s,rfl⟩),rfl,by simp,by show bC+1<=301;omega,λe=>by simp at e,l' _,j.aD F,q.trans (Tn.aD F)⟩
  have y:=SO X H C (bC+1) a w _ j (H.fe _ _ K q) J (by omega) (by omega) s;go_in;go_wp2_with (first|(at_lookup;refine nk _ rfl _ _ 137 rfl 9 307 ab2 Yj (lS qT) (y8) c.nm (ja L) rfl j.aX w rfl _ ((yZ L w).trans m) ?_)|(go_at_call 192;refine y.mono ?_;rintro e Y⟨f,G,rfl,g,b,O,t,D,B⟩;unfold mB))
  go_ret2
  exact⟨f,.inr (.inr (.inl ⟨v,p,s,G⟩)),rfl,by omega,b,O,by omega,D,q.trans B⟩
 have A:(di L w).oA=false:=by simpa using p
 have m:lS (di L w)=.agg #[.string ⟨(di L w).aU.toArray⟩,.bool false]:=by unfold lS aK;rw[A]
 go_in;go_wp2_with (at_lookup;refine nk _ rfl _ _ 137 rfl 9 307 ab2 Yj (lS qT) (y8) c.nm (ja L) rfl j.aX w rfl _ ((yZ L w).trans m) ?_)
 go_ret2
 exact⟨⟨(di L w).aU,0,bC+1⟩,.inr (.inr (.inr ⟨v,A,rfl⟩)),rfl,Hp C w,by show bC+1<=301;omega,λ_=>by show bC+1<=300;omega,l' _,j,q⟩
end
structure KI(L:NL)(sg:UInt8->jj)(mk:fv)(bC:Nat)(aU:aj)(part rest:aj)(er refs':Nat):Prop where
 im:∀aE dx,Mk.has 36 dx=true->after 36 dx=aU->er≠0->b_ (di L) sg mk bC aE dx ⟨[],er,refs'⟩
 Xu:∀aE dx,Mk.has 36 dx=true->after 36 dx=aU->er=0->∀r,b_ (di L) sg mk refs' (dt (dt aE (Mk.bo 36 dx)) part) rest r->b_ (di L) sg mk bC aE dx r
 SE:part.length<=1073741824
 R_:er=0->rest.length<aU.length
 UW:refs' <=301
 Vj:er=0->refs' <=300
 JP:bC<=refs'
def LA{s:aA}:(⟨s.data.toList.toArray⟩:aA)=s:=by cases s;simp
def xO(b a:aj)(e:Nat):az:=.tuple #[.string ⟨b.toArray⟩,.string ⟨a.toArray⟩,ι e]
def A7(c:UInt8):∀l:aj,(after c l).length<=l.length-1:=λl=>by unfold after;have:=(List.dropWhile_sublist (λx=> !(x==c)) (l:=l)).length_le;rw[Zu];omega
section
variable {c:lN}{L:NL}{sg:UInt8->jj}
def RU(HE:vQ c sv L sg SP d)(T:sx c sv sg SP)(hL:mh L)(bC:Nat)(b:fv)(s:aA)(W:ay)(h:fT c sv L bC b W)(ah:SP W)(Q:301<=bC+1+d)(S:bC<=300)(ao:b.length<=bC)(hs:s.size<=1073741824):
 Calls prog 198 #[.string s,sv,.func (.func 194) #[] #[π c.r,π c.n,π c.l]] W λe v=>∃(part rest:aj) (V refs':Nat),e=.returned (xO part rest V)/\KI L sg b bC s.data.toList part rest V refs'/\fT c sv L refs' b v/\mw c W v:=by
 obtain⟨K,U,rfl,av,ab⟩:=T.f;by_cases Y:s.size=0
 ·have ai:s=⟨#[]⟩:=by cases s;simp_all [ByteArray.size]
  subst ai;go_in;go_wp2
  go_ret3
  exact⟨[],[],1,bC,rfl,⟨λz g j i _=>b_.nil j i,λ_ _ _ _ e=>by simp at e,by simp,λe=>by simp at e,by omega,λe=>by simp at e,X0 _⟩,h,Tn.refl _ _⟩
 have al:0<s.size:=by omega
 have I:=yg s al;have aS:s.toList.isEmpty=false:=by
  cases H:s.toList.isEmpty with
  |false=>rfl|true=>exact absurd (by have:=yE H;rw[YJ,this];rfl) Y
 have ax:(s.extract 1 s.size).size+1=s.size:=by simp;omega
 have au:(s.extract 1 s.size).data.toList.length+1=s.data.toList.length:=by rw[I];rfl
 by_cases B:s[0]=36
 ·have u:(((s[0]).toNat:Int)==36)=true:=by rw[B];rfl
  have ag:((s[0]).toNat:Int)=36:=by rw[B];rfl
  go_in;go_wp2
  go_region
  all_goals go_wp2
  all_goals go_ret3
  all_goals exact⟨[36],(s.extract 1 s.size).data.toList,0,bC,by unfold xO;rw[LA];rfl,⟨λ_ _ _ _ e=>absurd rfl e,λz g j i _ p J=>b_.y9 j (i.trans (I.trans (by rw[B]))) J,by simp,λ_=>by omega,by omega,λ_=>S,X0 _⟩,h.aD (X5 _ W).drew,Tn.aD (X5 _ W).drew⟩
 have u:¬((s[0]).toNat:Int)=36:=λe=>B (p7.1 (show (s[0]).toNat=36 by omega));have ag:(((s[0]).toNat:Int)==36)=false:=by simpa using u
 have CR:∀v a,fT c (.func (.func K) #[] U) L bC b v ->SP v ->Calls prog 194 #[.string ⟨List.toArray a⟩,π c.r,π c.n,π c.l] v λe t=>∃p:Er,rJ (di L) sg b bC a p/\e=.returned (mB p)/\p.bK.length<=1073741824/\p.bC<=301/\(p.er=0->p.bC<=300)/\bC<=p.bC/\fT c (.func (.func K) #[] U) L p.bC b t/\mw c v t:=λv a j i=>Qv HE T hL bC b a v j i Q S ao;have x:Hid (∀v,μ W v ->fT c (.func (.func K) #[] U) L bC b v/\SP v):=λv H=>⟨h.aD H,T.fe _ _ ah (Tn.aD H)⟩;have ae:dq W.drew:=h.fQ.aD (X5 _ W).drew;by_cases C:s[0]=40
 ·have k:(((s[0]).toNat:Int)==40)=true:=by rw[C];rfl
  have af:((s[0]).toNat:Int)=40:=by rw[C];rfl
  have A:∀g,after 36 g=s.data.toList->after 36 g=40::(s.extract 1 s.size).data.toList:=λg e=>e.trans (I.trans (by rw[C]));generalize hX:s.extract 1 s.size=X at*;have G:=vJ 41 X W.drew (by omega) ae;cases E:Mk.has 41 X.data.toList with
  |false=>
   rw[E]at G;go_in;go_wp2
   go_region
   all_goals go_wp2_with (go_at_call 160;refine κ G λO m=>?_)
   all_goals go_ret3
   all_goals exact⟨[],[],1,bC,rfl,⟨λz g j i _=>b_.im j (A g i) (.inl E),λ_ _ _ _ e=>by simp at e,by simp,λe=>by simp at e,by omega,λe=>by simp at e,X0 _⟩,(x _ ((X5 _ W).drew.trans m)).1,Tn.aD ((X5 _ W).drew.trans m)⟩
  |true=>
   rw[E]at G;have F:=λw=>FW ⟨(Mk.bo 41 X.data.toList).toArray⟩ w;have ak:(⟨(Mk.bo 41 X.data.toList).toArray⟩:aA).data.toList=Mk.bo 41 X.data.toList:=by simp
   have ar:=A7 41 X.data.toList;rw[ak]at F;cases D:eT (Mk.bo 41 X.data.toList) with
   |false=>
    rw[D]at F;go_in;go_wp2
    go_region
    all_goals go_wp2_with (first|(go_at_call 160;refine κ G λO m=>?_)|(go_at_call 244;refine κ (F _) λw2 M=>?_))
    all_goals go_ret3
    all_goals exact⟨[],[],1,bC,rfl,⟨λz g j i _=>b_.im j (A g i) (.inr D),λ_ _ _ _ e=>by simp at e,by simp,λe=>by simp at e,by omega,λe=>by simp at e,X0 _⟩,(x _ (((X5 _ W).drew.trans m).trans (M.mono m.size))).1,Tn.aD (((X5 _ W).drew.trans m).trans (M.mono m.size))⟩
   |true=>
    rw[D]at F;go_in;go_wp2
    go_region
    all_goals go_wp2_with (first|(go_at_call 160;refine κ G λO m=>?_)|(go_at_call 244;refine κ (F _) λw2 M=>?_;have N:=((X5 _ W).drew.trans m).trans (M.mono m.size))|(go_at_call 194;refine(CR _ _ (x _ N).1 (x _ N).2).mono ?_;rintro e w3⟨p,J,rfl,q1,q2,q3,q4,q5,Z⟩;unfold mB))
    all_goals go_ret3
    all_goals exact⟨p.bK,after 41 X.data.toList,p.er,p.bC,rfl,⟨λz g j i e=>(b_.qR j (A g i) E D J).1 e,λz g j i e q R=>(b_.qR j (A g i) E D J).2 e q R,q1,λ_=>by omega,q2,q3,q4⟩,q5,(Tn.aD N).trans Z⟩
 have k:¬((s[0]).toNat:Int)=40:=λe=>C (p7.1 (show (s[0]).toNat=40 by omega));have af:(((s[0]).toNat:Int)==40)=false:=by simpa using k
 have A:∀g,after 36 g=s.data.toList->after 36 g=s[0]::(s.extract 1 s.size).data.toList:=λg e=>e.trans I;go_in;go_wp2
 go_region
 all_goals go_wp2_with (go_at_fn K;refine (ab W.drew (x _ (X5 _ W).drew).2 s[0]).mono ?_;rintro e O⟨⟨P,ok,rfl,o,ap⟩,m⟩)
 all_goals go_ret3
 all_goals first
  |exact⟨[],[],1,bC,rfl,⟨λz g j i _=>(b_.pa (r:=⟨[],1,bC⟩) j (A g i) B C).1 (by rw[o,Yb (by first|assumption|(rename_i y;simpa using y)|(rename_i y _;simpa using y))]),λ_ _ _ _ e=>by simp at e,by simp,λe=>by simp at e,by omega,λe=>by simp at e,X0 _⟩,(x _ ((X5 _ W).drew.trans m)).1,Tn.aD ((X5 _ W).drew.trans m)⟩
  |exact⟨P,(s.extract 1 s.size).data.toList,0,bC,by unfold xO;rw[LA];rfl,⟨λ_ _ _ _ e=>absurd rfl e,λz g j i _ q R=>(b_.pa j (A g i) B C).2 P (by rw[o,Yd (by first|assumption|(rename_i y;simpa using y)|(rename_i y _;simpa using y))]) R,ap,λ_=>by omega,by omega,λ_=>S,X0 _⟩,(x _ ((X5 _ W).drew.trans m)).1,Tn.aD ((X5 _ W).drew.trans m)⟩
end
def Bd.tn{B:Nat}{s:Nat->Prop}(h:Bd B b z W)(j:Tn s W Z)(m:∀k,B<=k->¬s k):Bd B b z Z:=by
 have i:B<=b:=by rcases h.wh with h|h<;>exact h.1
 have u:∀q,Lib.BuilderAtF 319 5 B b q (Lib.byteCells z) W->Lib.BuilderAtF 319 5 B b q (Lib.byteCells z) Z:=by
  rintro q⟨i,v,p,⟨x,n⟩,y⟩;refine⟨i,v,(j.block b (X8.1 p).1 (m b i)).trans p,⟨x,?_⟩,y⟩;obtain n|⟨g,d,f,o,t,a,l,c⟩:=n
  ·exact .inl n
  exact .inr ⟨g,d,f,o,t,a,(j.block g (X8.1 l).1 (m g a)).trans l,c⟩
 refine⟨?_,λe=>?_⟩
 ·obtain h|h:=h.wh
  ·exact .inl (u _ h)
  exact .inr (u _ h)
 have⟨q,r⟩:=h.nil e;exact⟨q,(j.block b (X8.1 r).1 (m b i)).trans r⟩
structure KJ(c:lN)(B:Nat):Prop where
 n:c.n<B
 s:c.s<B
 r:c.r<B
 m:c.m<B
 e:c.e<B
 l:c.l<B
 f:c.f<B
 nm:c.nm<B
 mm:c.mm<B
section
variable {c:lN}{L:NL}{sg:UInt8->jj}
def fT.lt(h:fT c sv L k mk W):KJ c W.heap.size:=⟨h.xw.lt,h.zp.lt,h.fw.lt,h.qI.lt,h.zs.lt,h.zz.lt,h.jJ.lt,h.aX.lt,h.kG.lt⟩
def fT.aP{B:Nat}(h:fT c sv L k mk W)(g:Below B W Z)(i:KJ c B):fT c sv L k mk Z:=by refine⟨h.xw.aP g i.n,h.zp.aP g i.s,h.fw.aP g i.r,h.qI.aP g i.m,h.zs.aP g i.e,h.zz.aP g i.l,h.jJ.aP g i.f,h.aX.aP g i.nm,h.kG.aP g i.mm,h.ne,?_,h.gr⟩;have⟨m,j⟩:=h.fQ;exact⟨m,(g.cell (p:=η 0 0) (Nat.lt_trans h.gr i.r)).trans j⟩
def Tn.bS{p:Nat->Prop}(h:Tn p i W)(e:Below i.heap.size W Z):Tn p i Z:=⟨e.os.trans h.os,e.tape.trans h.tape,e.output.trans h.output,Ye h.size e.size,λk f g=>(e.block k f).trans (h.block k f g)⟩
def R9(e:aj)(k:Nat):(ic e k).bK.length<=2000/\(ic e k).bC=k:=by
 unfold ic;split
 ·exact⟨by simp,rfl⟩
 exact⟨by show e.length<=2000;omega,rfl⟩
structure Lm(c:lN)(sv:az)(L:NL)(sg:UInt8->jj)(mk:fv)(bC:Nat)(aU:aj)(W:ay)(aE t:aj)(k:Nat)(wr:ay):Prop where
 bd:Bd W.heap.size W.heap.size aE wr
 ex:fT c sv L k mk wr
 tn:mw c W wr
 go:∀r,b_ (di L) sg mk k aE t r->b_ (di L) sg mk bC [] aU r
def SK(HE:vQ c sv L sg SP d)(Q:sx c sv sg SP)(hL:mh L):vQ c sv L sg SP (d+1):=by
 intro W w u C h ai hd hr aB aI;have O:=h.lt;have R:μ W (W.alloc (.cells #[.pointer none,ς] 319)):=ak W _;have ab:Lm c sv L sg u w C W [] C w (W.alloc (.cells #[.pointer none,ς] 319)):=⟨Bd.nE W,h.aD R,Tn.aD R,λZ N=>N⟩;go_in;go_wp2
 go_loopw [0] (λM wr=>∃(t s:aj) (k:Nat),M=σ t/\t.length<=C.length/\k<=300/\w<=k/\Lm c sv L sg u w C W s t k wr) (λM _=>pO M)
 case atStart=>exact⟨C,[],w,rfl,X0 _,hr,X0 _,ab⟩
 obtain⟨t,s,k,rfl,av,an,ag,g⟩:=hrel;have aw:=ea t;have E:=vJ 36 ⟨t.toArray⟩ wr (by omega) g.ex.fQ;rw[qm t]at E;have aF:(Mk.bo 36 t).length<=t.length:=by unfold Mk.bo;exact(ab9 _).length_le
 have au:=A7 36 t;have P:∀(f:ay) (x a:aj),Bd W.heap.size W.heap.size x f ->a.length<=1073741824->Calls prog 196 #[π W.heap.size,.string ⟨List.toArray a⟩] f λe z=>e=.returned (.tuple #[])/\Bd W.heap.size W.heap.size (dt x a) z/\Below W.heap.size f z:=λf x a G hp=>by have O:=G.lt;refine(WC W.heap.size W.heap.size x ⟨List.toArray a⟩ f G (by rw[ea];omega) (by omega)).mono ?_;rintro e z⟨rfl,J,j,_⟩;rw[qm]at J;exact⟨rfl,J,j⟩
 cases D:Mk.has 36 t with
 |false=>
  rw[D]at E;have CT:=λ(f:ay) (x:aj) (G:Bd W.heap.size W.heap.size x f)=>Vw W.heap.size W.heap.size x k f G;go_wp2_with (first|(go_at_call 160;refine E.mono ?_;rintro e w1⟨rfl,m⟩;have U:=g.bd.aD m;have Y:=g.ex.aD m;have V:=g.tn.trans (Tn.aD m))|(go_at_call 196;refine(P _ s (Mk.bo 36 t) U (by omega)).mono ?_;rintro e w2⟨rfl,j,v⟩;have S:=aC j;have F:=aC (Y.aP v O);have H:=aC (V.bS v))|(go_at_call 197;refine(CT _ _ S).mono ?_;rintro e w3⟨rfl,T⟩;have I:=F.aP T O;have K:=H.bS T))
  go_ret2
  have⟨q1,q2⟩:=R9 (dt s (Mk.bo 36 t)) k;exact⟨_,g.go _ (b_.pc D),rfl,q1,by omega,λ_=>by omega,by omega,by rw[q2];exact I,K⟩
 |true=>
  rw[D]at E;have CS:Hid (∀f,fT c sv L k u f ->SP f ->Calls prog 198 #[σ (after 36 t),sv,.func (.func 194) #[] #[π c.r,π c.n,π c.l]] f λe ad=>∃(a o:aj) (y b:Nat),e=.returned (xO a o y)/\KI L sg u k (after 36 t) a o y b/\fT c sv L b u ad/\mw c f ad):=λf J j=>by have:=RU HE Q hL k u ⟨(after 36 t).toArray⟩ f J j (by omega) an (by omega) (by rw[ea];omega);rw[qm]at this;exact this
  have ap:Hid (∀f,mw c W f ->SP f):=λf ht=>Q.fe _ _ ai ht;go_wp2_with (first|(go_at_call 160;refine E.mono ?_;rintro e w1⟨rfl,m⟩;have U:=g.bd.aD m;have Y:=g.ex.aD m;have V:=g.tn.trans (Tn.aD m))|(go_at_call_of 196 (Mk.bo 36 t);refine(P _ s (Mk.bo 36 t) U (by omega)).mono ?_;rintro e w2⟨rfl,j,v⟩;have S:=aC j;have F:=aC (Y.aP v O);have H:=aC (V.bS v);have s0:=F.zp.cell? (i:=0) rfl;have f0:=F.jJ.cell? (i:=0) rfl)|(go_at_call 198;refine(CS _ F (ap _ H)).mono ?_;rintro e w3⟨a,o,y,b,rfl,p,h3,X⟩;unfold xO;have al:=aC (S.tn X (λq hq e=>by have h7:=O.r;have h8:=O.mm;omega));have I:=h3;have K:=H.trans X)|(go_at_call_of 196 a;refine(P _ _ a al p.SE).mono ?_;rintro e w4⟨rfl,h4,aa⟩))
  ·have A:y≠0:=by first|assumption|(rename_i B;simpa using B)|(rename_i B;omega)
   go_ret2
   exact⟨⟨[],y,b⟩,g.go _ (p.im s t D rfl A),rfl,by simp,p.UW,λe=>absurd e A,Ye ag p.JP,I,K⟩
  have A:y=0:=by first|assumption|(rename_i B;simpa using B)|(rename_i B;omega)
  have ax:=p.R_ A;have aH:=p.JP;go_roundw
  case rel=>exact⟨o,_,b,rfl,by omega,p.Vj A,by omega,h4,I.aP aa O,K.bS aa,λZ N=>g.go _ (p.Xu s t D rfl A Z N)⟩
  show(⟨o.toArray⟩:aA).size<(⟨t.toArray⟩:aA).size;rw[ea,ea];omega
end
def yY(W:ay)(e:List Obj):ay:=e.foldl World.alloc W
theorem pushes_below:∀(e:List Obj) (W:ay),μ W (yY W e)
 |[],W=>X5 _ W
 |o::f,W=>(ak W o).trans ((pushes_below f (W.alloc o)).mono (by rw[X_];omega))
theorem FD:∀(g:List Obj) (W:ay) (e:Nat),e<g.length->(yY W g).heap[W.heap.size+e]?=g[e]?
 |[],_,_,h=>by simp at h
 |o::f,W,0,_=>by show(yY (W.alloc o) f).heap[W.heap.size]?=some o;have i:Below (W.alloc o).heap.size (W.alloc o) (yY (W.alloc o) f):=pushes_below f _;rw[i.block W.heap.size (by rw[X_];omega)];show(W.heap.push o)[W.heap.size]?=some o;simp
 |o::f,W,e+1,h=>by have:=FD f (W.alloc o) e (by simpa using h);rw[X_]at this;rw[show W.heap.size+(e+1)=W.heap.size+1+e by omega];exact this
theorem JU{c:lN}{L:NL}{j:UInt8->jj}(e:sx c sv j SP)(f:mh L):∀d,vQ c sv L j SP d
 |0=>λW a b i _ _ g h _ _=>by omega
 |d+1=>SK (JU e f d) e f
def zc(B e:Nat):lN:=⟨B,B+1,B+2,B+4,B+5,B+6,B+7,e,B+3⟩
def zK(B:Nat):az:=.func (.func 195) #[] #[π (B+1),π (B+7)]
def Lv(B:Nat):az:=.func (.func 192) #[] #[π (B+4),π (B+5),π B]
def Lu(B:Nat):az:=.func (.func 194) #[] #[π (B+2),π B,π (B+6)]
def Mz(g:Nat)(a:az)(L:NL)(W:ay)(i:Fn)(j:hZ)(r:a=.func i #[] j)(p:bF W g (ja L))(n:dq W):
 Calls prog 146 #[.map (some g),a] W λe q=>e=.returned (zK W.heap.size)/\fT (zc W.heap.size g) a L 0 [] q/\μ W q:=by
 have:= @B' prog;subst r;go_in;go_wp2
 go_ret;have h:=pushes_below [.cells #[.map (some g)] 137,.cells #[.func i #[] j] 199,.cells #[ι 0] 3,.map #[] 0,.cells #[.map (some (W.heap.size+3))] 140,.cells #[zK W.heap.size] 278,.cells #[Lv W.heap.size] 278,.cells #[Lu W.heap.size] 278] W;have f:=FD [.cells #[.map (some g)] 137,.cells #[.func i #[] j] 199,.cells #[ι 0] 3,.map #[] 0,.cells #[.map (some (W.heap.size+3))] 140,.cells #[zK W.heap.size] 278,.cells #[Lv W.heap.size] 278,.cells #[Lu W.heap.size] 278] W;have:=p.lt;have:0<W.heap.size:=by have⟨m,s⟩:=n;exact ZO W _ s
 refine⟨rfl,⟨f 0 (by simp),f 1 (by simp),f 2 (by simp),f 4 (by simp),f 5 (by simp),f 6 (by simp),f 7 (by simp),p.aD h,⟨#[],0,f 3 (by simp),stamped_empty 0,Yh _,rfl⟩,?_,n.aD h,?_⟩,h⟩
 ·show g≠W.heap.size+3;omega
 show 0<W.heap.size+2;omega
def Fg(i:Nat)(b:az)(L:NL)(d:UInt8->jj)(a:ay->Prop)(j:aj)(W:ay)(B:∀c:lN,W.heap.size<=c.r->W.heap.size<=c.mm->sx c b d a)(x:∀h,μ W h ->a h)(I:mh L)(E:bF W i (ja L))(y:dq W)(H:j.length<=1073741824):
 Calls prog 94 #[.map (some i),σ j,b] W λe h=>∃g:Er,b_ (di L) d [] 0 [] j g/\e=.returned (mB g)/\g.bK.length<=2000/\μ W h:=by
 have s:=B (zc W.heap.size i) (by show W.heap.size<=W.heap.size+2;omega) (by show W.heap.size<=W.heap.size+3;omega);obtain⟨z,v,G,-⟩:=s.f;subst G;have S:∀h,fT (zc W.heap.size i) (.func (.func z) #[] v) L 0 [] h ->a h ->Calls prog 195 #[σ j,π (W.heap.size+1),π (W.heap.size+7)] h λe D=>∃g:Er,b_ (di L) d [] 0 [] j g/\e=.returned (mB g)/\g.bK.length<=2000/\mw (zc W.heap.size i) h D:=λh n F=>by refine(JU s I 301 h 0 [] j n F (by omega) (by omega) (by simp) H).mono ?_;rintro e D⟨g,m,R,p,_,_,_,_,N⟩;exact⟨g,m,R,p,N⟩
 go_in;go_wp2_with (first|(go_at_call 146;refine κ (Mz i (.func (.func z) #[] v) L W _ v rfl E y) λX⟨n,C⟩=>?_;unfold zK)|(go_at_call 195;refine(S _ n ((aC x).u _ C)).mono ?_;rintro e Y⟨g,m,rfl,p,A⟩;unfold mB))
 go_ret2
 exact⟨g,m,rfl,p,C.trans (A.aP C.size (λk e=>by
  obtain e|e:=e
  ·have T:k=W.heap.size+2:=e;omega
  have T:k=W.heap.size+3:=e;omega))⟩
def Ub(c:lN):sx c (.func (.func 225) #[] #[]) (λ_=>none) (λ_=>True):=by
 refine⟨⟨_,_,rfl,mL func225 (by kernel_rfl) rfl,λW _ e=>?_⟩,λ_ _ _ _=>trivial⟩;show Calls prog 225 #[.int .u8 e.toNat] W _;go_in;go_wp2
 go_ret2
 exact⟨⟨[],false,rfl,rfl,by simp⟩,X5 _ _⟩


