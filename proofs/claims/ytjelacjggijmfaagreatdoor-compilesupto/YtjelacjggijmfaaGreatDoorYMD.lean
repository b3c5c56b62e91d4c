/- . -/
import Derived.Test.YtjelacjggijmfaaGreatDoorYSZ
import Derived.Laws.EntriesVeiled
set_option maxHeartbeats 4000000
set_option maxRecDepth 100000
namespace Go.Proofs.YtjelacjggijmfaaGreatDoor
open Pl Mk Cp Proofs.Tryz
open RowKit MapKept ChangeMaps Maps
theorem Ek {α β:Type}(f:α->β):∀(l:List α) (e:Nat),(l.eraseIdx e).map f=(l.map f).eraseIdx e
 |[],_=>rfl|_::_,0=>rfl|x::g,e+1=>by simp[List.eraseIdx,Ek f g e]
section
variable {P:Program} {w:ax} {b:Nat} {l:df} {t kt et ty:TypeId}
theorem bC.QG {k:ag}{v:ay}(h:bC w b (l++[(k,v)]))(H:P.underlying t=some (.map kt et))(y:P.underlying kt=some .string):
 ∃n,(Builtin.delete_ #[t,kt] ty #[.map (some b),aK k]).run P w= .ok (.tuple #[]) n /\bC n b l/\w.mapTurned n b:=by
 obtain⟨f,m,i,p,R,j⟩:=h;have D:b<w.heap.size:=(TN.1 i).1;have X:f.toList.length=l.length+1:=by have:=TU List.length j;simpa using this
 have G:cJ (l++[(k,v)]) k≠none:=by unfold cJ;simp only[ne_eq,YJ,Vm];intro F;exact absurd (F (k,v) (by simp)) (by simp)
 rcases wh k f.toList (l++[(k,v)]) 0 j with⟨s,_⟩|⟨g,T,V,s,u,r,A,h5⟩
 ·exact absurd s G
 ·obtain⟨B,U⟩:=TZ.1 r;have E:(f.toList.map (·.key))[l.length]?=some (aK k):=by have:=TU (λx:List (ay×ay)=>(x.map (·.1))[l.length]?) j;simp only[WT] at this;have J:((λx:ay×ay=>x.1)∘λe:MapEntry=>(e.key,e.val))=(λe:MapEntry=>e.key):=rfl;rw[J] at this;rw[this];simp
  have N:(f.toList.map (·.key))[g]?=some (aK k):=by rw[UG,r,XB,A]
  have I:g=l.length:=by obtain⟨S,M⟩:=TZ.1 N;obtain⟨Y,O⟩:=TZ.1 E;exact(List.getElem_inj p.2.2).1 (M.trans O.symm)
  have q:g<f.size:=by simpa using B
  have z:(f.eraseIdxIfInBounds g).toList=f.toList.eraseIdx g:=by unfold Array.eraseIdxIfInBounds;rw[dif_pos q];simp
  have C:(f.eraseIdxIfInBounds g).size<=f.size:=by unfold Array.eraseIdxIfInBounds;rw[dif_pos q];simp
  rw[Ur] at u;refine⟨setBlock w b (.map (f.eraseIdxIfInBounds g) m),?_,⟨f.eraseIdxIfInBounds g,m,by simp[setBlock,D],stamped_erase p g,TT C R,?_⟩,f,m,_,_,i,rfl⟩
  ·simp[Builtin.delete_,run_underlying H,MapKept.run_getObj_map i,uF y,Instr.findKey,run_underlying y,u,MapKept.run_setObj_map _ i,Result.andThen,setBlock]
  ·rw[z];have K:(f.toList.eraseIdx g).map (λe=>(e.key,e.val))=(f.toList.map (λe=>(e.key,e.val))).eraseIdx g:=Ek _ _ _;rw[K,j,I];simp[List.eraseIdx_append_of_length_le]
end
section
variable {P:Program} (w:ax) {fG:Array Oper} {rest:List Oper} {o:Oper} {a:Act} {Q:Exit->Act->ax->Prop}
theorem Jg (i:o.guard=none)(m x:Operand)(t kt:TypeId)(h:o.op=Op.call {callee:=Callee.builtin Builtin.delete,args:= #[m,x],argTypes:= #[t,kt]})(et:TypeId)(q:P.underlying t=some (.map kt et))(n:P.underlying kt=some .string)(b:Nat)(l:df)(k:ag)(v:ay)(y:a.eval m= .map (some b))(s:bC w b (l++[(k,v)]))(u:a.eval x= .string ⟨k.toArray⟩)(p:∀e,bC e b l->w.mapTurned e b->wpList P fG Q rest (a.put o.dst (.tuple #[])) e):wpList P fG Q (o::rest) a w:=by refine Ym i λz j=> ?_;obtain⟨e,f,r,g⟩:=s.QG (ty:=o.type) q n;unfold aK at f;unfold Oper.wp;simp[execOp,h,resolve,invoke,builtin,y,u,f,Result.andThen];exact j _ _ (p e r g)
end
structure ky where
 n:Nat
 s:Nat
 r:Nat
 m:Nat
 e:Nat
 l:Nat
 f:Nat
 nm:Nat
 mm:Nat
abbrev NL:=List (ag×Nv)
def kD (v:Nv):ay:= .agg #[aK v.aT,.bool v.mQ]
def iE (l:NL):df:=l.map λx=>(x.1,kD x.2)
def cW (l:NL)(k:ag):Nv:=((l.find? (λx=>x.1==k)).map (·.2)).getD pL
theorem xj (l:NL)(k:ag):(cJ (iE l) k).getD (kD pL)=kD (cW l k):=by unfold cJ iE cW;rw[aaY];have e:((λx:ag×ay=>x.1==k)∘λx:ag×Nv=>(x.1,kD x.2))=λx=>x.1==k:=rfl;rw[e];cases List.find? (λx=>x.1==k) l<;>rfl
def dm (mk:List ag):df:=mk.map λk=>(k,.agg #[])
theorem s8 (mk:List ag)(k:ag):cJ (dm mk) k=if k∈mk then some (.agg #[]) else none:=by
 unfold cJ dm;rw[aaY];have e:((λx:ag×ay=>x.1==k)∘λk:ag=>(k,Value.agg #[]))=λx=>x==k:=rfl;rw[e];split
 ·rename_i h;cases f:List.find? (λx=>x==k) mk with|none=>exact absurd (Vm.1 f k h) (by simp)|some x=>rfl
 ·rename_i h;rw[Vm.2 (λx g=>by simp;exact λe=>h (e▸g))];rfl
theorem Am {mk:List ag}{k:ag}(h:k∉mk):eK (dm mk) k (.agg #[])=dm (mk++[k]):=by
 induction mk with
 |nil=>rfl|cons x g f=>simp only[Ue,not_or] at h;show(if x==k then _ else _)=_;rw[TJ (by simpa using λe=>h.1 e.symm)];show(x,Value.agg #[])::eK (dm g) k (.agg #[])=_;rw[f h.2];rfl
structure fp (c:ky)(sv:ay)(L:NL)(bq:Nat)(mk:List ag)(W:ax):Prop where
 uX:aG W c.n 137 [.map (some c.nm)]
 xB:aG W c.s 199 [sv]
 k_:aG W c.r 3 [.int .i64 bq]
 pA:aG W c.m 140 [.map (some c.mm)]
 xE:aG W c.e 278 [.func (.func 195) #[] #[.pointer (some ⟨c.s,0,none⟩),.pointer (some ⟨c.f,0,none⟩)]]
 xL:aG W c.l 278 [.func (.func 192) #[] #[.pointer (some ⟨c.m,0,none⟩),.pointer (some ⟨c.e,0,none⟩),.pointer (some ⟨c.n,0,none⟩)]]
 xH:aG W c.f 278 [.func (.func 194) #[] #[.pointer (some ⟨c.r,0,none⟩),.pointer (some ⟨c.n,0,none⟩),.pointer (some ⟨c.l,0,none⟩)]]
 aV:bC W c.nm (iE L)
 lC:bC W c.mm (dm mk)
 ne:c.nm≠c.mm
 fh:c_ W
 gr:0<c.r
def lf (c:ky)(W e :ax):Prop:=Tn (λk=>k=c.r\/k=c.mm) W e
variable {f g:List ay}
theorem sp {W:ax}{b k:Nat}{t:TypeId}{l:df}(h:aG W b t f)(i:bC W k l):b≠k:=λe=>by obtain⟨j,m,g,_⟩:=i;subst e;unfold aG at h;rw[h] at g;cases g
theorem KU {W:ax}{b k:Nat}{t u:TypeId}(h:aG W b t f)(i:aG W k u g)(j:t≠u):b≠k:=λe=>by subst e;unfold aG at h i;rw[h] at i;cases i;exact j rfl
theorem ui {w f :ax}{b:Nat}{p:Nat->Prop}(h:w.mapTurned f b)(g:p b):Tn p w f :=by obtain⟨n,r,s,q,i,rfl⟩:=h;have u:b<w.heap.size:=(TN.1 i).1;refine⟨rfl,rfl,rfl,by simp[setBlock],λk m j=> ?_⟩;have:k≠b:=λe=>j (e▸g);simp[setBlock,Ne.symm this]
section
variable {c:ky} {sv:ay} {L:NL} {bq refs' :Nat} {mk mk' :List ag} {W Z:ax}
theorem fp.next (h:fp c sv L bq mk W)(i:lf c W Z)(s:aG Z c.r 3 [.int .i64 refs'])(v:bC Z c.mm (dm mk')):fp c sv L refs' mk' Z:=by
 have key:∀{b:Nat} {t:TypeId} {p:List ay},aG W b t p->t≠3->aG Z b t p:=λf u=>f.tn i (λe=>e.elim (KU f h.k_ u) (sp f h.lC));refine⟨key h.uX (by decide),key h.xB (by decide),s,key h.pA (by decide),key h.xE (by decide),key h.xL (by decide),key h.xH (by decide),h.aV.tn i (λe=>e.elim (λe=>sp h.k_ h.aV e.symm) h.ne),v,h.ne,?_,h.gr⟩;obtain⟨m,g⟩:=h.fh;have q:=U5 W _ g;refine⟨m,?_⟩;rw[VJ (a:=⟨0,0,none⟩) (i.block _ q (λe=> ?_))]
 ·exact g
 ·rcases e with e|e
  ·have j :0=c.r:=e;have:=h.gr;omega
  ·have j :0=c.mm:=e;obtain⟨x,y,n,_⟩:=h.lC;rw[<-j] at n;simp[World.cell?,n] at g
theorem fp.aE (h:fp c sv L bq mk W)(e:Below W.heap.size W Z):fp c sv L bq mk Z:=h.next (Tn.aE e) (h.k_.aE e) (h.lC.aE e)
end
theorem Lp (m b f:Nat)(mk:List ag)(k:ag)(u:FrameMode)(W:ax)(p:aG W m 140 [.map (some f)])(n:aG W b 9 [.string ⟨k.toArray⟩])(h:bC W f (dm (mk++[k]))):
 CallsD prog 193 #[.pointer (some ⟨m,0,none⟩),.pointer (some ⟨b,0,none⟩)] u W λe s j=>s =u/\(e= .returned (.tuple #[])/\bC j f (dm mk)/\Tn (λq=>q=f) W j):=by
 have y:=p.cell? (i:=0) rfl;have A:=n.cell? (i:=0) rfl;have g :bC W f (dm mk++[(k,.agg #[])]):=by
  have:dm (mk++[k])=dm mk++[(k,.agg #[])]:=by unfold dm;rw[T'];rfl
  rw[<-this];exact h
 have x:=aB g;clear p n h g;go_enter_d func193,ntmps193
 go_wp2_with (at_delete;refine Jg _ rfl _ _ 140 9 rfl 316 VN T0 f (dm mk) k (.agg #[]) rfl x.u rfl ?_;intro z r v)
 go_end0
 exact⟨rfl,r,ui v rfl⟩
structure qE (c:ky)(sv:ay)(sg:UInt8->Option ag)(SP:ax->Prop):Prop where
 f:∃g caps,sv= .func (.func g) #[] caps/\(∀args w,(callFunc g args).run prog w= .ok (.enter g args) w)/\∀W,SP W->∀ch:UInt8,Calls prog g (#[.int .u8 ch.toNat]++caps) W λe w'=>(∃(p:ag) (ok:Bool),e= .returned (.tuple #[.string ⟨p.toArray⟩,.bool ok])/\sg ch=(if ok then some p else none)/\p.length<=1073741824)/\Below W.heap.size W w'
 eQ:∀W W',SP W->lf c W W' ->SP W'
def kT (L:NL):Prop:=∀x∈L,x.2.aT.length<=1073741824
theorem EL {L:NL}(h:kT L)(k:ag):(cW L k).aT.length<=1073741824:=by
 unfold cW;cases e:L.find? (λx=>x.1==k) with
 |none=>simp[pL]
 |some x=>exact h x (Uw e)
def lq (e:Er):ay:= .tuple #[.string ⟨e.bE.toArray⟩,.int .i64 e.er]
def tI (c:ky)(sv:ay)(L:NL)(sg:UInt8->Option ag)(SP:ax->Prop)(d:Nat):Prop:=
 ∀(W:ax) (bq:Nat) (mk:List ag) (h:ag),fp c sv L bq mk W->SP W->301<=bq+d->bq<=300->mk.length<=bq->h.length<=1073741824->
  Calls prog 195 #[.string ⟨h.toArray⟩,.pointer (some ⟨c.s,0,none⟩),.pointer (some ⟨c.f,0,none⟩)] W λe i=>∃g:Er,bM (cW L) sg mk bq [] h g/\e= .returned (lq g)/\g.bE.length<=2000/\g.bq<=301/\(g.er=0->g.bq<=300)/\bq<=g.bq/\fp c sv L g.bq mk i /\lf c W i
theorem s6 (w:ax):(zeroValue 316).run prog w= .ok (.agg #[]) w:=by kernel_rfl
theorem xk (w:ax):(zeroValue 307).run prog w= .ok (.agg #[.string ⟨#[]⟩,.bool false]) w:=by kernel_rfl
theorem Fs (t:az)(b:Bool)(w:ax):(Instr.field 307 (.agg #[.string t,.bool b]) 0).run prog w= .ok (.string t) w:=by simp[Instr.field,run_underlying underlying307,asAgg,part]
theorem PF (t:az)(b:Bool)(w:ax):(Instr.field 307 (.agg #[.string t,.bool b]) 1).run prog w= .ok (.bool b) w:=by simp[Instr.field,run_underlying underlying307,asAgg,part]
section
variable {c:ky} {sv:ay} {L:NL} {sg:UInt8->Option ag} {SP:ax->Prop} {d:Nat}
theorem QO (bq:Nat)(mk:List ag)(name:ag)(W:ax)(h:fp c sv L bq mk W)(p:name∈mk):
 Calls prog 192 #[.string ⟨name.toArray⟩,.pointer (some ⟨c.m,0,none⟩),.pointer (some ⟨c.e,0,none⟩),.pointer (some ⟨c.n,0,none⟩)] W λe f=>e= .returned (lq ⟨[],4,bq⟩)/\Below W.heap.size W f :=by
 have r:=h.pA.cell? (i:=0) rfl;have j:cJ (dm mk) name=some (.agg #[]):=by rw[s8,TP p]
 have g:Hid (bC (W.alloc (.cells #[.string ⟨name.toArray⟩] 9)) c.mm (dm mk)):=h.lC.aE (aj W _);have q:=h.pA.lt;clear h;go_enter_defers func192,ntmps192
 go_wp2_with (first|(at_lookup;refine pQ _ rfl _ _ 140 rfl 9 316 VN T0 (.agg #[]) (s6 _) c.mm (dm mk) rfl g.u name rfl (.agg #[]) j ?_)|fail)
 exact⟨_,YM rfl _ _ _,rfl,(aj W _).alloc (by rw[TM];omega) _⟩
theorem OS (HE:tI c sv L sg SP d)(K:qE c sv sg SP)(V:kT L)(bq:Nat)(mk:List ag)(name:ag)(W:ax)(h:fp c sv L bq mk W)(al:SP W)(U:301<=bq+d)(hr:bq<=300)(am:mk.length+1<=bq)(F:name∉mk):
 Calls prog 192 #[.string ⟨name.toArray⟩,.pointer (some ⟨c.m,0,none⟩),.pointer (some ⟨c.e,0,none⟩),.pointer (some ⟨c.n,0,none⟩)] W λe B=>∃g:Er,bM (cW L) sg (mk++[name]) bq [] (cW L name).aT g/\e= .returned (lq g)/\g.bE.length<=2000/\g.bq<=301/\(g.er=0->g.bq<=300)/\bq<=g.bq/\fp c sv L g.bq mk B /\lf c W B :=by
 have ai:cJ (dm mk) name=none:=by rw[s8,TJ F]
 have z:Below W.heap.size W (W.alloc (.cells #[.string ⟨name.toArray⟩] 9)):=aj W _;have q:Below W.heap.size W ((W.alloc (.cells #[.string ⟨name.toArray⟩] 9)).alloc (.cells #[] 316)):=z.alloc (by rw[TM];omega) _;have M:=aB (h.aE z);have I:=aB (h.aE q);have A:aG ((W.alloc (.cells #[.string ⟨name.toArray⟩] 9)).alloc (.cells #[] 316)) W.heap.size 9 [.string ⟨name.toArray⟩]:=(aG.bA W 9 [.string ⟨name.toArray⟩]).alloc _;have c0:=h.pA.cell? (i:=0) rfl;have hl:=h.pA.lt;have an:=h.k_.lt;have ah:Hid (∀j,lf c ((W.alloc (.cells #[.string ⟨name.toArray⟩] 9)).alloc (.cells #[] 316)) j->SP j):=λj ht=>K.eQ _ _ (K.eQ _ _ al (Tn.aE q)) ht;have ae:Hid (∀j,bC j c.mm (eK (dm mk) name (.agg #[]))->World.mapTurned ((W.alloc (.cells #[.string ⟨name.toArray⟩] 9)).alloc (.cells #[] 316)) j c.mm->fp c sv L bq (mk++[name]) j):=λj h1 C=>(h.aE q).next (ui C (.inr rfl)) ((h.aE q).k_.tn (ui (p:=λk=>k=c.mm) C rfl) (sp (h.aE q).k_ (h.aE q).lC)) (by rw[<-Am F];exact h1);have ap:=Fs;have aq:∀(fn:Fn) (first cap:Array ay) (w:ax),(Instr.makeFunc fn first cap).run prog w= .ok (.func fn first cap) w:=λ_ _ _ _=>rfl;have ao:=M.u.pA.lt;have T:=sp A I.u.lC;have ab:=aB q;have Y:=aB A;clear h z q A;go_enter_defers func192,ntmps192
 go_wp2_with (first|(at_lookup;refine pR _ rfl _ _ 140 rfl 9 316 VN T0 (.agg #[]) (s6 _) c.mm (dm mk) rfl M.u.lC name rfl ai ?_)|(at_mapUpdate;refine pT _ rfl _ _ _ 140 rfl 9 316 VN T0 c.mm (dm mk) rfl I.u.lC (by unfold dm maxLen;rw[TR];omega) name rfl (.agg #[]) rfl ?_;intro j R v;have x:=aB (ae.u _ R v);have O:=aB (ui (p:=λk=>k=c.r\/k=c.mm) v (.inr rfl));have e0:=x.u.xE.cell? (i:=0) rfl;have n0:=x.u.uX.cell? (i:=0) rfl;have E:=aB (Y.u.tn (ui (p:=λk=>k=c.mm) v rfl) T);have b0:=E.u.cell? (i:=0) rfl;clear R v)|(at_lookup;refine mz _ rfl _ _ 137 rfl 9 307 Xx T0 (kD pL) (xk _) c.nm (iE L) rfl x.u.aV name rfl (kD (cW L name)) (xj L name) ?_;unfold kD aK)|(go_at_call 195;refine(HE _ bq (mk++[name]) (cW L name).aT x.u (ah.u _ O.u) U hr (by simpa using am) (EL V name)).mono ?_;rintro e y ⟨g,H,rfl,af,ak,ad,aa,G,D⟩;unfold lq;have s:=aB G;have S:=aB D;have HX:=aB H;clear H G D)|fail)
 have ac:aG y W.heap.size 9 [.string ⟨name.toArray⟩]:=E.u.tn S.u (λe=>e.elim (λe=>by omega) T);refine leaves_cons (f:=193) (args:= #[.pointer (some ⟨c.m,0,none⟩),.pointer (some ⟨W.heap.size,0,none⟩)]) (by simp) (by simp[go_sem]) ?_;refine(Lp c.m W.heap.size c.mm mk name .returning y s.u.pA ac s.u.lC).mono ?_;rintro e u' w5 ⟨rfl,rfl,X,J⟩;have N :lf c y w5:=J.mono (λk e=> .inr e);exact⟨_,YM rfl _ _ _,g,HX.u,rfl,af,ak,ad,aa,s.u.next N (s.u.k_.tn J (sp s.u.k_ s.u.lC)) X,(((Tn.aE ab.u).trans O.u).trans S.u).trans N⟩
end
section
variable {c:ky} {sv:ay} {L:NL} {sg:UInt8->Option ag} {SP:ax->Prop} {d:Nat}
theorem fp.count {bq k:Nat}{mk:List ag}{W:ax}(h:fp c sv L bq mk W):fp c sv L k mk (W.setCell ⟨c.r,0,none⟩ (.int .i64 k))/\lf c W (W.setCell ⟨c.r,0,none⟩ (.int .i64 k)):=by have f:lf c W (W.setCell ⟨c.r,0,none⟩ (.int .i64 k)):=Tn.set W ⟨c.r,0,none⟩ _ (.inl rfl);exact⟨h.next f (h.k_.set 0 _) (h.lC.setCell (a:=⟨c.r,0,none⟩) (λe=>sp h.k_ h.lC e.symm) _),f⟩
theorem MV (U:tI c sv L sg SP d)(F:qE c sv sg SP)(C:kT L)(bq:Nat)(mk:List ag)(name:ag)(W:ax)(h:fp c sv L bq mk W)(aa:SP W)(J:301<=bq+1+d)(hr:bq<=300)(ad:mk.length<=bq):
 Calls prog 194 #[.string ⟨name.toArray⟩,.pointer (some ⟨c.r,0,none⟩),.pointer (some ⟨c.n,0,none⟩),.pointer (some ⟨c.l,0,none⟩)] W λe A=>∃f:Er,qi (cW L) sg mk bq name f/\e= .returned (lq f)/\f.bE.length<=1073741824/\f.bq<=301/\(f.er=0->f.bq<=300)/\bq<=f.bq/\fp c sv L f.bq mk A /\lf c W A :=by
 have y:((bq+1:Nat):Int)=(bq:Int)+1:=by push_cast;rfl
 obtain⟨j,x⟩:=h.count (k:=bq+1);rw[y] at j x;have r0:=h.k_.cell? (i:=0) rfl;have z0:=h.k_.frozen 0;have S:=j.k_.cell? (i:=0) rfl;rw[y] at S;have n1:=j.uX.cell? (i:=0) rfl;have l1:=j.xL.cell? (i:=0) rfl;have g:=aB j;have v:=aB x;have Y:=F.eQ _ _ aa x;have ac:=Fs;have ab:=PF;have hw:IntKind.wrap .i64 ((bq:Int)+1)=(bq:Int)+1:=wrap_small (by omega) (by omega);clear h j x y;by_cases s:300<bq+1
 ·have M:(300:Int)<(bq:Int)+1:=by omega
  go_enter aaB,aab;go_wp2_with fail
  go_ret2
  exact⟨⟨[],5,bq+1⟩,.inl ⟨s,rfl⟩,rfl,by simp,by show bq+1<=301;omega,λe=>by simp at e,Ww _,g.u,v.u⟩
 ·have M:¬(300:Int)<(bq:Int)+1:=by omega
  have X:=EL C name;by_cases m:(cW L name).mQ=true
  ·have q:kD (cW L name)= .agg #[.string ⟨(cW L name).aT.toArray⟩,.bool true]:=by unfold kD aK;rw[m]
   by_cases p:name∈mk
   ·have z:=aB (QO (bq+1) mk name _ g.u p);go_enter aaB,aab;go_wp2_with (first|(at_lookup;refine mz _ rfl _ _ 137 rfl 9 307 Xx T0 (kD pL) (xk _) c.nm (iE L) rfl g.u.aV name rfl _ ((xj L name).trans q) ?_)|(go_at_call 192;refine z.u.mono ?_;rintro e N ⟨rfl,I⟩;unfold lq;have D:=aB I;clear I)|fail)
    go_ret2
    exact⟨⟨[],4,bq+1⟩,.inr (.inl ⟨s,m,p,rfl⟩),rfl,by simp,by show bq+1<=301;omega,λe=>by simp at e,Ww _,g.u.aE D.u,v.u.trans (Tn.aE D.u)⟩
   ·have z:=aB (OS U F C (bq+1) mk name _ g.u Y J (by omega) (by omega) p);go_enter aaB,aab;go_wp2_with (first|(at_lookup;refine mz _ rfl _ _ 137 rfl 9 307 Xx T0 (kD pL) (xk _) c.nm (iE L) rfl g.u.aV name rfl _ ((xj L name).trans q) ?_)|(go_at_call 192;refine z.u.mono ?_;rintro e N ⟨f,E,rfl,q1,V,O,q4,G,H⟩;unfold lq;have R:=aB E;have T:=aB G;have K:=aB H;clear E G H)|fail)
    go_ret2
    exact⟨f,.inr (.inr (.inl ⟨s,m,p,R.u⟩)),rfl,by omega,V,O,by omega,T.u,v.u.trans K.u⟩
  ·have B:(cW L name).mQ=false:=by simpa using m
   have q:kD (cW L name)= .agg #[.string ⟨(cW L name).aT.toArray⟩,.bool false]:=by unfold kD aK;rw[B]
   go_enter aaB,aab;go_wp2_with (first|(at_lookup;refine mz _ rfl _ _ 137 rfl 9 307 Xx T0 (kD pL) (xk _) c.nm (iE L) rfl g.u.aV name rfl _ ((xj L name).trans q) ?_)|fail)
   go_ret2
   exact⟨⟨(cW L name).aT,0,bq+1⟩,.inr (.inr (.inr ⟨s,B,rfl⟩)),rfl,X,by show bq+1<=301;omega,λ_=>by show bq+1<=300;omega,Ww _,g.u,v.u⟩
end
structure Ic (L:NL)(sg:UInt8->Option ag)(mk:List ag)(bq:Nat)(aT:ag)(part rest:ag)(er refs' :Nat):Prop where
 gS:∀aC full,Mk.has 36 full=true->bQ 36 full=aT->er≠0->bM (cW L) sg mk bq aC full ⟨[],er,refs'⟩
 S4:∀aC full,Mk.has 36 full=true->bQ 36 full=aT->er=0->∀r,bM (cW L) sg mk refs' (da (da aC (Mk.bj 36 full)) part) rest r->bM (cW L) sg mk bq aC full r
 OL:part.length<=1073741824
 Oj:er=0->rest.length<aT.length
 Qz:refs' <=301
 QU:er=0->refs' <=300
 GC:bq<=refs'
theorem I6 (s:az):(⟨s.data.toList.toArray⟩:az)=s:=by cases s;simp
def vx (part rest:ag)(e:Nat):ay:= .tuple #[.string ⟨part.toArray⟩,.string ⟨rest.toArray⟩,.int .i64 e]
theorem y8 (c:UInt8):∀l:ag,(bQ c l).length<=l.length-1:=λl=>by unfold bQ;have:=(List.dropWhile_sublist (λx=> !(x==c)) (l:=l)).length_le;rw[UM];omega
section
variable {c:ky} {sv:ay} {L:NL} {sg:UInt8->Option ag} {SP:ax->Prop} {d:Nat}
theorem N7 (HE:tI c sv L sg SP d)(S:qE c sv sg SP)(hL:kT L)(bq:Nat)(mk:List ag)(s:az)(W:ax)(h:fp c sv L bq mk W)(ak:SP W)(hd:301<=bq+1+d)(T:bq<=300)(al:mk.length<=bq)(hs:s.size<=1073741824):
 Calls prog 198 #[.string s,sv,.func (.func 194) #[] #[.pointer (some ⟨c.r,0,none⟩),.pointer (some ⟨c.n,0,none⟩),.pointer (some ⟨c.l,0,none⟩)]] W λe p=>∃(part rest:ag) (er refs' :Nat),e= .returned (vx part rest er)/\Ic L sg mk bq s.data.toList part rest er refs' /\fp c sv L refs' mk p /\lf c W p :=by
 obtain⟨G,R,rfl,ar,ab⟩:=S.f;have HM:=aB h;by_cases h0:s.size=0
 ·have ah:s=⟨#[]⟩:=by cases s;simp_all [ByteArray.size]
  subst ah;go_enter YN,XZ;go_wp2_with fail
  go_ret3
  exact⟨[],[],1,bq,rfl,⟨λy full g i _=>bM.nil g i,λ_ _ _ _ e=>by simp at e,by simp,λe=>by simp at e,by omega,λe=>by simp at e,TD _⟩,HM.u,Tn.refl _ _⟩
 ·have ae:0<s.size:=by omega
  have K:=vV s ae;have aU:s.toList.isEmpty=false:=by
   cases H:s.toList.isEmpty with
   |false=>rfl|true=>exact absurd (by have:=wO H;rw[Uf,this];rfl) h0
  have av:(1:Int)<=(s.size:Int):=by omega
  have aq:(s.extract 1 s.size).size+1=s.size:=by simp;omega
  have au:(s.extract 1 s.size).data.toList.length+1=s.data.toList.length:=by rw[K];rfl
  by_cases B:s[0]=36
  ·have t1:(((s[0]).toNat:Int)==36)=true:=by rw[B];rfl
   have ap :((s[0]).toNat:Int)=36:=by rw[B];rfl
   go_enter YN,XZ;go_wp2_with fail
   go_region
   all_goals go_wp2_with fail
   all_goals go_ret3
   all_goals exact⟨[36],(s.extract 1 s.size).data.toList,0,bq,by unfold vx;rw[I6];rfl,⟨λ_ _ _ _ e=>absurd rfl e,λy full g i _ m I=>bM.xl g (i.trans (K.trans (by rw[B]))) I,by simp,λ_=>by omega,by omega,λ_=>T,TD _⟩,HM.u.aE (TF _ W).drew,Tn.aE (TF _ W).drew⟩
  ·have t1:¬((s[0]).toNat:Int)=36:=λe=>B (V6.1 (show (s[0]).toNat=36 by omega));have ap :(((s[0]).toNat:Int)==36)=false:=by simpa using t1
   have CR:Hid (∀p name,fp c (.func (.func G) #[] R) L bq mk p ->SP p ->Calls prog 194 #[.string ⟨List.toArray name⟩,.pointer (some ⟨c.r,0,none⟩),.pointer (some ⟨c.n,0,none⟩),.pointer (some ⟨c.l,0,none⟩)] p λe ac=>∃m:Er,qi (cW L) sg mk bq name m/\e= .returned (lq m)/\m.bE.length<=1073741824/\m.bq<=301/\(m.er=0->m.bq<=300)/\bq<=m.bq/\fp c (.func (.func G) #[] R) L m.bq mk ac /\lf c p ac):=λp name g i=>MV HE S hL bq mk name p g i hd T al;have z:Hid (∀p,Below W.heap.size W p ->fp c (.func (.func G) #[] R) L bq mk p /\SP p):=λp H=>⟨h.aE H,S.eQ _ _ ak (Tn.aE H)⟩;have am:Hid (c_ W.drew):=h.fh.aE (TF _ W).drew;have af:=aB ab;clear h ab;by_cases A:s[0]=40
   ·have t2:(((s[0]).toNat:Int)==40)=true:=by rw[A];rfl
    have an :((s[0]).toNat:Int)=40:=by rw[A];rfl
    have x:∀full,bQ 36 full=s.data.toList->bQ 36 full=40::(s.extract 1 s.size).data.toList:=λfull e=>e.trans (K.trans (by rw[A]));generalize hX:s.extract 1 s.size=X at*;have D:=aB (tF 41 X W.drew (by omega) am.u);cases E:Mk.has 41 X.data.toList with
    |false=>
     rw[E] at D;go_enter YN,XZ;go_wp2_with fail
     go_region
     all_goals go_wp2_with (first|(go_at_call 160;refine D.u.mono ?_;rintro e N ⟨rfl,j⟩)|fail)
     all_goals go_ret3
     all_goals exact⟨[],[],1,bq,rfl,⟨λy full g i _=>bM.gS g (x full i) (.inl E),λ_ _ _ _ e=>by simp at e,by simp,λe=>by simp at e,by omega,λe=>by simp at e,TD _⟩,(z.u _ ((TF _ W).drew.trans j)).1,Tn.aE ((TF _ W).drew.trans j)⟩
    |true=>
     rw[E] at D;have F:=aB (λw=>Dw ⟨(Mk.bj 41 X.data.toList).toArray⟩ w);have aj:(⟨(Mk.bj 41 X.data.toList).toArray⟩:az).data.toList=Mk.bj 41 X.data.toList:=by simp
     have aw:=y8 41 X.data.toList;rw[aj] at F;cases C:eo (Mk.bj 41 X.data.toList) with
     |false=>
      rw[C] at F;go_enter YN,XZ;go_wp2_with fail
      go_region
      all_goals go_wp2_with (first|(go_at_call 160;refine D.u.mono ?_;rintro e N ⟨rfl,j⟩)|(go_at_call 244;refine(F.u _).mono ?_;rintro e w2 ⟨rfl,J⟩)|fail)
      all_goals go_ret3
      all_goals exact⟨[],[],1,bq,rfl,⟨λy full g i _=>bM.gS g (x full i) (.inr C),λ_ _ _ _ e=>by simp at e,by simp,λe=>by simp at e,by omega,λe=>by simp at e,TD _⟩,(z.u _ (((TF _ W).drew.trans j).trans (J.mono j.size))).1,Tn.aE (((TF _ W).drew.trans j).trans (J.mono j.size))⟩
     |true=>
      rw[C] at F;go_enter YN,XZ;go_wp2_with fail
      go_region
      all_goals go_wp2_with (first|(go_at_call 160;refine D.u.mono ?_;rintro e N ⟨rfl,j⟩)|(go_at_call 244;refine(F.u _).mono ?_;rintro e w2 ⟨rfl,J⟩;have O:=aB (((TF _ W).drew.trans j).trans (J.mono j.size)))|(go_at_call 194;refine(CR.u _ _ (z.u _ O.u).1 (z.u _ O.u).2).mono ?_;rintro e w3 ⟨m,I,rfl,q1,q2,q3,q4,Y,q6⟩;unfold lq;have V:=aB I;have ao:=aB Y;have ad:=aB q6;clear I Y q6)|fail)
      all_goals go_ret3
      all_goals exact⟨m.bE,bQ 41 X.data.toList,m.er,m.bq,rfl,⟨λy full g i e=>(bM.pJ g (x full i) E C V.u).1 e,λy full g i e q M=>(bM.pJ g (x full i) E C V.u).2 e q M,q1,λ_=>by omega,q2,q3,q4⟩,ao.u,(Tn.aE O.u).trans ad.u⟩
   ·have t2:¬((s[0]).toNat:Int)=40:=λe=>A (V6.1 (show (s[0]).toNat=40 by omega));have an :(((s[0]).toNat:Int)==40)=false:=by simpa using t2
    have CS:=aB (af.u W.drew (z.u _ (TF _ W).drew).2 s[0]);have x:∀full,bQ 36 full=s.data.toList->bQ 36 full=s[0]::(s.extract 1 s.size).data.toList:=λfull e=>e.trans K;go_enter YN,XZ;go_wp2_with fail
    go_region
    all_goals go_wp2_with (first|(go_at_fn G;refine CS.u.mono ?_;rintro e N ⟨⟨U,ok,rfl,aa,ai⟩,j⟩)|fail)
    all_goals go_ret3
    all_goals first
     |exact⟨[],[],1,bq,rfl,⟨λy full g i _=>(bM.nG (r:=⟨[],1,bq⟩) g (x full i) B A).1 (by rw[aa,TJ (by first|assumption|(rename_i v;simpa using v)|(rename_i v _;simpa using v))]),λ_ _ _ _ e=>by simp at e,by simp,λe=>by simp at e,by omega,λe=>by simp at e,TD _⟩,(z.u _ ((TF _ W).drew.trans j)).1,Tn.aE ((TF _ W).drew.trans j)⟩
     |exact⟨U,(s.extract 1 s.size).data.toList,0,bq,by unfold vx;rw[I6];rfl,⟨λ_ _ _ _ e=>absurd rfl e,λy full g i _ q M=>(bM.nG g (x full i) B A).2 U (by rw[aa,TP (by first|assumption|(rename_i v;simpa using v)|(rename_i v _;simpa using v))]) M,ai,λ_=>by omega,by omega,λ_=>T,TD _⟩,(z.u _ ((TF _ W).drew.trans j)).1,Tn.aE ((TF _ W).drew.trans j)⟩
end
theorem Bd.tn {B b:Nat}{f:List UInt8}{W Z:ax}{p:Nat->Prop}(h:Bd B b f W)(j:Tn p W Z)(m:∀k,B<=k->¬p k):Bd B b f Z:=by
 have i:B<=b:=by rcases h.tT with h|h<;>exact h.1
 have u:∀q,Lib.BuilderAtF 319 5 B b q (Lib.byteCells f) W->Lib.BuilderAtF 319 5 B b q (Lib.byteCells f) Z:=by
  rintro q ⟨i,v,r,⟨y,n⟩,x⟩;refine⟨i,v,(j.block b (TN.1 r).1 (m b i)).trans r,⟨y,?_⟩,x⟩;rcases n with n|⟨g,cap,cur,fz,hv,hBg,hg,rest⟩
  ·exact .inl n
  ·exact .inr ⟨g,cap,cur,fz,hv,hBg,(j.block g (TN.1 hg).1 (m g hBg)).trans hg,rest⟩
 refine⟨?_,λe=> ?_⟩
 ·rcases h.tT with h|h
  ·exact .inl (u _ h)
  ·exact .inr (u _ h)
 ·obtain⟨q,s⟩:=h.nil e;exact⟨q,(j.block b (TN.1 s).1 (m b i)).trans s⟩
structure Ie (c:ky)(B:Nat):Prop where
 n:c.n<B
 s:c.s<B
 r:c.r<B
 m:c.m<B
 e:c.e<B
 l:c.l<B
 f:c.f<B
 nm:c.nm<B
 mm:c.mm<B
section
variable {c:ky} {sv:ay} {L:NL} {sg:UInt8->Option ag} {SP:ax->Prop} {d k:Nat} {mk:List ag} {W Z:ax}
theorem fp.lt (h:fp c sv L k mk W):Ie c W.heap.size:=⟨h.uX.lt,h.xB.lt,h.k_.lt,h.pA.lt,h.xE.lt,h.xL.lt,h.xH.lt,h.aV.lt,h.lC.lt⟩
theorem fp.aL {B:Nat}(h:fp c sv L k mk W)(i:Below B W Z)(g:Ie c B):fp c sv L k mk Z:=by refine⟨h.uX.aL i g.n,h.xB.aL i g.s,h.k_.aL i g.r,h.pA.aL i g.m,h.xE.aL i g.e,h.xL.aL i g.l,h.xH.aL i g.f,h.aV.aL i g.nm,h.lC.aL i g.mm,h.ne,?_,h.gr⟩;obtain⟨m,j⟩:=h.fh;exact⟨m,(i.cell (p:=⟨0,0,none⟩) (Nat.lt_trans h.gr g.r)).trans j⟩
theorem Tn.bU {p:Nat->Prop}{A:ax}(h:Tn p A W)(e:Below A.heap.size W Z):Tn p A Z:=⟨e.os.trans h.os,e.tape.trans h.tape,e.output.trans h.output,TT h.size e.size,λk f g=>(e.block k f).trans (h.block k f g)⟩
theorem Oi (e:ag)(k:Nat):(gC e k).bE.length<=2000/\(gC e k).bq=k:=by
 unfold gC;split
 ·exact⟨by simp,rfl⟩
 ·exact⟨by show e.length<=2000;omega,rfl⟩
structure IS (c:ky)(sv:ay)(L:NL)(sg:UInt8->Option ag)(mk:List ag)(bq:Nat)(aT:ag)(W:ax)(aC t:ag)(k:Nat)(wr:ax):Prop where
 bd:Bd W.heap.size W.heap.size aC wr
 ex:fp c sv L k mk wr
 tn:lf c W wr
 go:∀r,bM (cW L) sg mk k aC t r->bM (cW L) sg mk bq [] aT r
theorem OQ (HE:tI c sv L sg SP d)(ad:qE c sv sg SP)(hL:kT L):tI c sv L sg SP (d+1):=by
 intro W bq mk C h an hd hr aD aw;have V:=h.lt;have aa:Below W.heap.size W (W.alloc (.cells #[.pointer none,.slice none 0 0] 319)):=aj W _;have ac:Hid (IS c sv L sg mk bq C W [] C bq (W.alloc (.cells #[.pointer none,.slice none 0 0] 319))):=⟨Bd.lZ W,h.aE aa,Tn.aE aa,λaf X=>X⟩;have A:=aB V;clear h aa V;go_enter func195,ntmps195;go_wp2_with fail
 go_loopw [0] (λtv wr=>∃(t v:ag) (k:Nat),tv= .string ⟨t.toArray⟩/\t.length<=C.length/\k<=300/\bq<=k/\Hid (IS c sv L sg mk bq C W v t k wr)) (λtv _=>ox tv)
 case atStart=>exact⟨C,[],bq,rfl,TD _,hr,TD _,ac⟩
 case round=>
  clear ac;obtain⟨t,v,k,rfl,aG,ak,aq,g⟩:=hrel;have aF:=g.u.bd.lt;have aA:=g.u.tn.size;have au:(⟨t.toArray⟩:az).size=t.length:=eh t;have am:(⟨t.toArray⟩:az).data.toList=t:=sI t;have E:=aB (tF 36 ⟨t.toArray⟩ wr (by omega) g.u.ex.fh);rw[am] at E;have av:(Mk.bj 36 t).length<=t.length:=by unfold Mk.bj;exact(XH _).length_le
  have aI:=y8 36 t;have O:Hid (∀(f :ax) (s part:ag),Bd W.heap.size W.heap.size s f ->part.length<=1073741824->Calls prog 196 #[.pointer (some ⟨W.heap.size,0,none⟩),.string ⟨List.toArray part⟩] f λe Y=>e= .returned (.tuple #[])/\Bd W.heap.size W.heap.size (da s part) Y /\Below W.heap.size f Y):=λf s part G hp=>by have V:=G.lt;refine(Sh W.heap.size W.heap.size s ⟨List.toArray part⟩ f G (by rw[eh];omega) (by omega)).mono ?_;rintro e Y ⟨rfl,K,m,_⟩;rw[sI] at K;exact⟨rfl,K,m⟩
  cases F:Mk.has 36 t with
  |false=>
   rw[F] at E;have CT:=aB (λ(f :ax) (s :ag) (G:Bd W.heap.size W.heap.size s f)=>Q5 W.heap.size W.heap.size s k f G);go_wp2_with (first|(go_at_call 160;refine E.u.mono ?_;rintro e w1 ⟨rfl,j⟩;have ab:=aB (g.u.bd.aE j);have S:=aB (g.u.ex.aE j);have R:=aB (g.u.tn.trans (Tn.aE j));clear j)|(go_at_call 196;refine(O.u _ v (Mk.bj 36 t) ab.u (by omega)).mono ?_;rintro e w2 ⟨rfl,m,x⟩;have N:=aB m;have D:=aB (S.u.aL x A.u);have I:=aB (R.u.bU x);clear m x)|(go_at_call 197;refine(CT.u _ _ N.u).mono ?_;rintro e w3 ⟨rfl,M⟩;have J:=aB (D.u.aL M A.u);have H:=aB (I.u.bU M);clear M)|fail)
   go_ret2
   obtain⟨q1,q2⟩:=Oi (da v (Mk.bj 36 t)) k;exact⟨_,g.u.go _ (bM.nH F),rfl,q1,by omega,λ_=>by omega,by omega,by rw[q2];exact J.u,H.u⟩
  |true=>
   rw[F] at E;have CS:Hid (∀f,fp c sv L k mk f ->SP f ->Calls prog 198 #[.string ⟨(bQ 36 t).toArray⟩,sv,.func (.func 194) #[] #[.pointer (some ⟨c.r,0,none⟩),.pointer (some ⟨c.n,0,none⟩),.pointer (some ⟨c.l,0,none⟩)]] f λe ah=>∃(part rest:ag) (z refs' :Nat),e= .returned (vx part rest z)/\Ic L sg mk k (bQ 36 t) part rest z refs' /\fp c sv L refs' mk ah /\lf c f ah):=λf K m=>by have:=N7 HE ad hL k mk ⟨(bQ 36 t).toArray⟩ f K m (by omega) ak (by omega) (by rw[eh];omega);rw[sI] at this;exact this
   have ao:Hid (∀f,lf c W f ->SP f):=λf ht=>ad.eQ _ _ an ht;go_wp2_with (first|(go_at_call 160;refine E.u.mono ?_;rintro e w1 ⟨rfl,j⟩;have ab:=aB (g.u.bd.aE j);have S:=aB (g.u.ex.aE j);have R:=aB (g.u.tn.trans (Tn.aE j));clear j)|(go_at_call_of 196 (Mk.bj 36 t);refine(O.u _ v (Mk.bj 36 t) ab.u (by omega)).mono ?_;rintro e w2 ⟨rfl,m,x⟩;have N:=aB m;have D:=aB (S.u.aL x A.u);have I:=aB (R.u.bU x);have s0:=D.u.xB.cell? (i:=0) rfl;have f0:=D.u.xH.cell? (i:=0) rfl;clear m x)|(go_at_call 198;refine(CS.u _ D.u (ao.u _ I.u)).mono ?_;rintro e w3 ⟨part,rest,z,refs',rfl,ae,h3,U⟩;unfold vx;have ar:=aB (N.u.tn U (λq hq e=>by have h7:=A.u.r;have h8:=A.u.mm;omega));have J:=aB h3;have H:=aB (I.u.trans U);have p:=aB ae;clear h3 U ae)|(go_at_call_of 196 part;refine(O.u _ _ part ar.u p.u.OL).mono ?_;rintro e w4 ⟨rfl,h4,T⟩;have ai:=aB h4;have ap:=aB (J.u.aL T A.u);have al:=aB (H.u.bU T);clear h4 T)|fail)
   ·have y:z≠0:=by first|assumption|(rename_i B;simpa using B)|(rename_i B;omega)
    go_ret2
    exact⟨⟨[],z,refs'⟩,g.u.go _ (p.u.gS v t F rfl y),rfl,by simp,p.u.Qz,λe=>absurd e y,TT aq p.u.GC,J.u,H.u⟩
   ·have y:z=0:=by first|assumption|(rename_i B;simpa using B)|(rename_i B;omega)
    have aH:=p.u.Oj y;have aJ:=p.u.GC;go_roundw
    case rel=>exact⟨rest,_,refs',rfl,by omega,p.u.QU y,by omega,ai.u,ap.u,al.u,λaf X=>g.u.go _ (p.u.S4 v t F rfl y af X)⟩
    case measure=>show(⟨rest.toArray⟩:az).size<(⟨t.toArray⟩:az).size;rw[eh,eh];omega
end
def xi (W:ax)(e:List Obj):ax:=e.foldl World.alloc W
theorem pushes_below:∀(e:List Obj) (W:ax),Below W.heap.size W (xi W e)
 |[],W=>TF _ W
 |o::f,W=>(aj W o).trans ((pushes_below f (W.alloc o)).mono (by rw[TM];omega))
theorem De:∀(g:List Obj) (W:ax) (e:Nat),e<g.length->(xi W g).heap[W.heap.size+e]?=g[e]?
 |[],_,_,h=>by simp at h
 |o::f,W,0,_=>by show(xi (W.alloc o) f).heap[W.heap.size]?=some o;have i:Below (W.alloc o).heap.size (W.alloc o) (xi (W.alloc o) f):=pushes_below f _;rw[i.block W.heap.size (by rw[TM];omega)];show(W.heap.push o)[W.heap.size]?=some o;simp
 |o::f,W,e+1,h=>by have:=De f (W.alloc o) e (by simpa using h);rw[TM] at this;rw[show W.heap.size+(e+1)=W.heap.size+1+e by omega];exact this
theorem GJ {c:ky}{sv:ay}{L:NL}{sg:UInt8->Option ag}{SP:ax->Prop}(e:qE c sv sg SP)(f:kT L):∀d,tI c sv L sg SP d
 |0=>λW bq mk i _ _ g h _ _=>by omega
 |d+1=>OQ (GJ e f d) e f
def xo (B e:Nat):ky:=⟨B,B+1,B+2,B+4,B+5,B+6,B+7,e,B+3⟩
def xX (B:Nat):ay:= .func (.func 195) #[] #[.pointer (some ⟨B+1,0,none⟩),.pointer (some ⟨B+7,0,none⟩)]
def I1 (B:Nat):ay:= .func (.func 192) #[] #[.pointer (some ⟨B+4,0,none⟩),.pointer (some ⟨B+5,0,none⟩),.pointer (some ⟨B,0,none⟩)]
def I0 (B:Nat):ay:= .func (.func 194) #[] #[.pointer (some ⟨B+2,0,none⟩),.pointer (some ⟨B,0,none⟩),.pointer (some ⟨B+6,0,none⟩)]
theorem JM (g:Nat)(sv:ay)(L:NL)(W:ax)(i:Fn)(j:Array ay)(r:sv= .func i #[] j)(p:bC W g (iE L))(q:c_ W):
 Calls prog 146 #[.map (some g),sv] W λe n=>e= .returned (xX W.heap.size)/\fp (xo W.heap.size g) sv L 0 [] n /\Below W.heap.size W n :=by
 have y:∀(fn:Fn) (first cap:Array ay) (w:ax),(Instr.makeFunc fn first cap).run prog w= .ok (.func fn first cap) w:=λ_ _ _ _=>rfl;have x:= @XN prog;subst r;go_enter func146,ntmps146;go_wp2_with fail
 go_ret;have h:=pushes_below [.cells #[.map (some g)] 137,.cells #[.func i #[] j] 199,.cells #[.int .i64 0] 3,.map #[] 0,.cells #[.map (some (W.heap.size+3))] 140,.cells #[xX W.heap.size] 278,.cells #[I1 W.heap.size] 278,.cells #[I0 W.heap.size] 278] W;have f:=De [.cells #[.map (some g)] 137,.cells #[.func i #[] j] 199,.cells #[.int .i64 0] 3,.map #[] 0,.cells #[.map (some (W.heap.size+3))] 140,.cells #[xX W.heap.size] 278,.cells #[I1 W.heap.size] 278,.cells #[I0 W.heap.size] 278] W;have v:=p.lt;have u:0<W.heap.size:=by obtain⟨m,s⟩:=q;exact U5 W _ s
 refine⟨rfl,⟨f 0 (by simp),f 1 (by simp),f 2 (by simp),f 4 (by simp),f 5 (by simp),f 6 (by simp),f 7 (by simp),p.aE h,⟨#[],0,f 3 (by simp),stamped_empty 0,TS _,rfl⟩,?_,q.aE h,?_⟩,h⟩
 ·show g≠W.heap.size+3;omega
 ·show 0<W.heap.size+2;omega
theorem Cs (i:Nat)(sv:ay)(L:NL)(sg:UInt8->Option ag)(SP:ax->Prop)(j:ag)(W:ax)(B:∀c:ky,W.heap.size<=c.r->W.heap.size<=c.mm->qE c sv sg SP)(E:∀g,Below W.heap.size W g ->SP g)(G:kT L)(y:bC W i (iE L))(z:c_ W)(N:j.length<=1073741824):
 Calls prog 94 #[.map (some i),.string ⟨j.toArray⟩,sv] W λe g=>∃h:Er,bM (cW L) sg [] 0 [] j h/\e= .returned (lq h)/\h.bE.length<=2000/\Below W.heap.size W g :=by
 have q:=B (xo W.heap.size i) (by show W.heap.size<=W.heap.size+2;omega) (by show W.heap.size<=W.heap.size+3;omega);obtain⟨x,p,F,-⟩:=q.f;subst F;have H:=aB (JM i (.func (.func x) #[] p) L W _ p rfl y z);have K:Hid (∀g,fp (xo W.heap.size i) (.func (.func x) #[] p) L 0 [] g ->SP g ->Calls prog 195 #[.string ⟨j.toArray⟩,.pointer (some ⟨W.heap.size+1,0,none⟩),.pointer (some ⟨W.heap.size+7,0,none⟩)] g λe C=>∃h:Er,bM (cW L) sg [] 0 [] j h/\e= .returned (lq h)/\h.bE.length<=2000/\lf (xo W.heap.size i) g C):=λg n R=>by refine(GJ q G 301 g 0 [] j n R (by omega) (by omega) (by simp) N).mono ?_;rintro e C ⟨h,m,T,s,_,_,_,_,I⟩;exact⟨h,m,T,s,I⟩
 have S:=aB E;clear B E q y z;go_enter func94,ntmps94;go_wp2_with (first|(go_at_call 146;refine H.u.mono ?_;rintro e Y ⟨rfl,n,A⟩;unfold xX;have M:=aB n;have v:=aB A;clear n A)|(go_at_call 195;refine(K.u _ M.u (S.u _ v.u)).mono ?_;rintro e X ⟨h,m,rfl,s,D⟩;unfold lq;have J:=aB m;have U:=aB D;clear m D)|fail)
 go_ret2
 have V:=v.u.size;exact⟨h,J.u,rfl,s,v.u.trans (U.u.aL V (λk e=>by
  rcases e with e|e
  ·have O :k=W.heap.size+2:=e;omega
  ·have O :k=W.heap.size+3:=e;omega))⟩
theorem P2 (c:ky):qE c (.func (.func 225) #[] #[]) (λ_=>none) (λ_=>True):=by
 refine⟨⟨_,_,rfl,Yi func225 (by kernel_rfl) rfl,λW _ e=> ?_⟩,λ_ _ _ _=>trivial⟩;show Calls prog 225 #[.int .u8 e.toNat] W _;go_enter func225,ntmps225;go_wp2_with fail
 go_ret2
 exact⟨⟨[],false,rfl,rfl,by simp⟩,TF _ _⟩
