/-
  How long lines, and the plain form of a text, can be.
-/
import Derived.Test.YtjelacjggijmfaaGreatDoorTGB3
import Derived.Test.YtjelacjggijmfaaGreatDoorTNB
namespace Go.Proofs.YtjelacjggijmfaaGreatDoor
open Go.RowKit Go.MapKept Go.ChangeMaps Go.Maps
def nPut:NL→Pl.Bs→Cp.Nv→NL
 |[],k,v=>[(k,v)]
 |x::r,k,v=>if x.1==k then(k,v)::r else x::nPut r k v
theorem nPut_ents (k:Pl.Bs) (v:Cp.Nv):∀L:NL,mput (nEnts L) k (nvV v)=nEnts (nPut L k v)
 |[]=>rfl
 |x::r=>by
  have ih:=nPut_ents k v r;unfold nEnts at*;rw[List.map_cons,mput,nPut];cases hx:(x.1==k) with
  |true=>simp
  |false=>simp[ih]
theorem nPut_len (k:Pl.Bs) (v:Cp.Nv):∀L:NL,(nPut L k v).length≤L.length+1
 |[]=>Nat.le_refl _
 |x::r=>by
  have ih:=nPut_len k v r;rw[nPut];split
  ·simp
  ·simp only[List.length_cons];omega
theorem nPut_short (k:Pl.Bs) (v:Cp.Nv) (hv:v.text.length≤1073741824):∀L:NL,Short L→Short (nPut L k v)
 |[],_,x,hx=>by
  rw[nPut,List.mem_singleton] at hx;subst hx;exact hv
 |y::r,h,x,hx=>by
  rw[nPut] at hx;split at hx
  ·rcases List.mem_cons.1 hx with e|e
   ·subst e;exact hv
   ·exact h x (List.mem_cons_of_mem _ e)
  ·rcases List.mem_cons.1 hx with e|e
   ·subst e;exact h _ (List.mem_cons_self ..)
   ·exact nPut_short k v hv r (fun z hz=>h z (List.mem_cons_of_mem _ hz)) x e
def ofPut (of:Pl.Bs→List Nat) (t:Pl.Bs) (xs:List Nat):Pl.Bs→List Nat:=fun n=>if n=t then xs else of n
def rbPut (rb:Nat→Nat) (i g:Nat):Nat→Nat:=fun j=>if j=i then g else rb j
section
variable {W X Y:World} {F G:Foot} {c:Ad} {rb:Nat→Nat} {s:St} {p:Tag→Prop}
theorem Ch.then (hc:Ch p c F G W X) {x:Nat} {t1:Tag} (ht:Tn (fun k=>k=x) X Y) (hx:F x=some t1) (hty:x=c.nm∨x=c.bt∨x=c.pb∨∃cs e fz,Y.heap[x]?=some (Obj.cells cs e fz)∧TyR e):Ch (fun t=>p t∨t=t1) c F G W Y:=by
 refine⟨⟨ht.os.trans hc.tn.os,ht.tape.trans hc.tn.tape,ht.output.trans hc.tn.output,Nat.le_trans hc.tn.size ht.size,fun k hk hp=>(ht.block k (Nat.lt_of_lt_of_le hk hc.tn.size) (fun e=>hp ⟨t1,e▸hx,.inr rfl⟩)).trans (hc.tn.block k hk (fun ⟨t,q1,q2⟩=>hp ⟨t,q1,.inl q2⟩))⟩,fun k t e hp=>hc.keep k t e (fun q=>hp (.inl q)),hc.nil,fun k t e=> ?_⟩
 by_cases hk:k=x
 ·rw[hk];exact hty
 ·rcases hc.ty k t e with q|q|q|⟨cs,e,fz,q1,q2⟩
  ·exact .inl q
  ·exact .inr (.inl q)
  ·exact .inr (.inr (.inl q))
  ·exact .inr (.inr (.inr ⟨cs,e,fz,(ht.block k (Array.getElem?_eq_some_iff.1 q1).1 hk).trans q1,q2⟩))
theorem row_ty {b:Nat} {e:TypeId} {vs:List Value} (h:Row X b e vs) (he:TyR e):∃cs e fz,X.heap[b]?=some (Obj.cells cs e fz)∧TyR e:=⟨_,_,_,h,he⟩
theorem RdM.toNames (h:RdM W F c rb s) {L:NL} (ht:W.mapTurned X c.nm) (hs:SMap X c.nm (nEnts L)):RdM X F c rb {s with names:=L}∧Fr F F W X:=by
 have hc:=h.one (map_tn (p:=fun k=>k=c.nm) ht rfl) h.fnm (.inl rfl)
 exact⟨⟨hc.ty,h.frd,h.fbb,h.fnm,h.fbt,h.fpb,h.frb,hc.rowC (s:=s) h (fun e=>by cases e),hc.bookC (s:=s) h (fun e=>by cases e) (fun e=>by cases e),hs,hc.phonyC (s:=s) h (fun e=>by cases e),hc.tgtsC (s:=s) h (fun e=>by cases e) (fun _ e=>by cases e),fun i r hr=>hc.ruleC (s:=s) h (fun e=>by cases e) (fun e=>by cases e) hr,h.pl,h.ol⟩,hc.fr⟩
theorem RdM.toPhony (h:RdM W F c rb s) {ph:List Pl.Bs} (ht:Tn (fun k=>k=c.pb) W X) (hs:SMap X c.pb (mEnts ph)):RdM X F c rb {s with ph:=ph}∧Fr F F W X:=by
 have hc:=h.one ht h.fpb (.inr (.inr (.inl rfl)))
 exact⟨⟨hc.ty,h.frd,h.fbb,h.fnm,h.fbt,h.fpb,h.frb,hc.rowC (s:=s) h (fun e=>by cases e),hc.bookC (s:=s) h (fun e=>by cases e) (fun e=>by cases e),hc.namesC (s:=s) h (fun e=>by cases e),hs,hc.tgtsC (s:=s) h (fun e=>by cases e) (fun _ e=>by cases e),fun i r hr=>hc.ruleC (s:=s) h (fun e=>by cases e) (fun e=>by cases e) hr,h.pl,h.ol⟩,hc.fr⟩
theorem RdM.toRd (h:RdM W F c rb s) {n inc opn:Nat} (ht:Tn (fun k=>k=c.rd) W X) (hr:Row X c.rd 186 [.pointer (some ⟨c.bx,0,none⟩),.pointer (some ⟨c.bb,0,none⟩),.int .i64 (n:Int),.int .i64 (inc:Int),.int .i64 (opn:Int)]):RdM X F c rb {s with n:=n,inc:=inc,opn:=opn}∧Fr F F W X:=by
 have hc:=h.one ht h.frd (.inr (.inr (.inr (row_ty hr (.inl rfl)))))
 exact⟨⟨hc.ty,h.frd,h.fbb,h.fnm,h.fbt,h.fpb,h.frb,hr,hc.bookC (s:=s) h (fun e=>by cases e) (fun e=>by cases e),hc.namesC (s:=s) h (fun e=>by cases e),hc.phonyC (s:=s) h (fun e=>by cases e),hc.tgtsC (s:=s) h (fun e=>by cases e) (fun _ e=>by cases e),fun i r hr=>hc.ruleC (s:=s) h (fun e=>by cases e) (fun e=>by cases e) hr,h.pl,h.ol⟩,hc.fr⟩
theorem RdM.toRule (h:RdM W F c rb s) (hb:Below W.heap.size W X) {g:Nat} (hg:W.heap.size≤g) {vt vn:Value} {tg nd:List Pl.Bs} (hr:Row X g 273 [vt,vn,.slice none 0 0]) (h1:SlF X (F.put g (.rule s.rules.length)) vt tg) (h2:SlF X (F.put g (.rule s.rules.length)) vn nd):
 RdM X (F.put g (.rule s.rules.length)) c (rbPut rb s.rules.length g) {s with rules:=s.rules++[⟨tg,nd,[]⟩]}∧Fr F (F.put g (.rule s.rules.length)) W X:=by
 have hc:=h.new (t0:= .rule s.rules.length) hb hg (row_ty hr (.inr (.inr (.inl rfl))));have hne:∀i,i<s.rules.length→rbPut rb s.rules.length g i=rb i:=fun i hi=>by unfold rbPut;rw[if_neg (by omega)]
 have heq:rbPut rb s.rules.length g s.rules.length=g:=by unfold rbPut;rw[if_pos rfl]
 refine⟨⟨hc.ty,hc.keep _ _ h.frd id,hc.keep _ _ h.fbb id,hc.keep _ _ h.fnm id,hc.keep _ _ h.fbt id,hc.keep _ _ h.fpb id,fun i hi=> ?_,hc.rowC (s:=s) h id,?_,hc.namesC (s:=s) h id,hc.phonyC (s:=s) h id,?_,fun i r hr' => ?_,fun i hi=> ?_,fun name i hi=> ?_⟩,hc.fr⟩
 ·simp only[List.length_append,List.length_cons,List.length_nil] at hi
  by_cases e:i=s.rules.length
  ·subst e
   rw[heq];unfold Foot.put;rw[if_pos rfl]
  ·rw[hne i (by omega)]
   exact hc.keep _ _ (h.frb i (by omega)) id
 ·obtain⟨vp,q1,q2⟩:=hc.bookC (s:=s) h id id
  exact⟨vp,q1,q2.congr (fun i hi=>hne i (h.pl i hi))⟩
 ·obtain⟨l,q1,q2,q3⟩:=hc.tgtsC (s:=s) h id (fun _=>id)
  exact⟨l,q1,q2,fun name=>(q3 name).congr (fun i hi=>hne i (h.ol name i hi))⟩
 ·by_cases e:i<s.rules.length
  ·rw[List.getElem?_append_left e] at hr'
   rw[hne i e];exact hc.ruleC (s:=s) h id id hr'
  ·have hi:i=s.rules.length:=by
    have:=(List.getElem?_eq_some_iff.1 hr').1;simp only[List.length_append,List.length_cons,List.length_nil] at this;omega
   subst hi;rw[List.getElem?_append_right (Nat.le_refl _),Nat.sub_self] at hr';cases hr';rw[heq];exact⟨vt,vn,.slice none 0 0,hr,h1,h2,World.ownsRow_nil _ _ _ _,fun k e=>by cases e⟩
 ·rw[List.length_append];have:=h.pl i hi;omega
 ·rw[List.length_append];have:=h.ol name i hi;omega
theorem RdM.toPat (h:RdM W F c rb s) {vp vp' :Value} {i:Nat} (hi:i<s.rules.length) (hB:BkR W c.bb c.nm c.bt c.pb vp s.first) (hP:PRow W F .pats vp rb s.pats) (hown:X.ownsRow 0 265 1 vp' (s.pats.length+1) (s.pats.map (ptrV rb)++[ptrV rb i])) (hg:W.grownBy X vp.ownBlock) (hf:vp'.ownBlock=vp.ownBlock∨vp'.ownBlock=some W.heap.size):
 RdM (X.setCell ⟨c.bb,1,none⟩ vp') (F.own vp vp' .pats) c rb {s with pats:=s.pats++[i]}∧Fr F (F.own vp vp' .pats) W (X.setCell ⟨c.bb,1,none⟩ vp'):=by
 obtain⟨hc,ho⟩:=h.grow hown hg hP.2 hf (.inr (.inr (.inr (.inl rfl))));have hB2:BkR X c.bb c.nm c.bt c.pb vp s.first:=(hc.block h h.fbb (fun e=>by cases e)).trans hB;have hB3:BkR (X.setCell ⟨c.bb,1,none⟩ vp') c.bb c.nm c.bt c.pb vp' s.first:=Row.set hB2 1 vp'
 have hne:some c.bb≠vp'.ownBlock:=fun e=>by
  obtain⟨cur,fz,q⟩:=own_type hown c.bb e.symm;unfold BkR Row at hB2;rw[hB2] at q;cases q
 have hc2:=hc.then (t1:= .book) (Tn.set (p:=fun k=>k=c.bb) X ⟨c.bb,1,none⟩ vp' rfl) h.fbb (.inr (.inr (.inr (row_ty hB3 (.inr (.inl rfl))))))
 refine⟨⟨hc2.ty,hc2.keep _ _ h.frd (by simp),hc.keep _ _ h.fbb (by simp),hc2.keep _ _ h.fnm (by simp),hc2.keep _ _ h.fbt (by simp),hc2.keep _ _ h.fpb (by simp),fun j hj=>hc2.keep _ _ (h.frb j hj) (by simp),hc2.rowC (s:=s) h (by simp),⟨vp',hB3,?_,ho⟩,hc2.namesC (s:=s) h (by simp),hc2.phonyC (s:=s) h (by simp),hc2.tgtsC (s:=s) h (by simp) (by simp),fun j r hr=>hc2.ruleC (s:=s) h (by simp) (by simp) hr,fun j hj=> ?_,h.ol⟩,hc2.fr⟩
 ·have:=owns_other hown hne 1 vp'
  simpa using this
 ·rcases List.mem_append.1 hj with e|e
  ·exact h.pl j e
  ·rw[List.mem_singleton] at e;subst e;exact hi
theorem RdM.toFirst (h:RdM W F c rb s) (f:Pl.Bs):RdM (W.setCell ⟨c.bb,2,none⟩ (strV f)) F c rb {s with first:=f}∧Fr F F W (W.setCell ⟨c.bb,2,none⟩ (strV f)):=by
 obtain⟨vp,hB,hP⟩:=h.book;have hB2:BkR (W.setCell ⟨c.bb,2,none⟩ (strV f)) c.bb c.nm c.bt c.pb vp f:=Row.set hB 2 (strV f);have hc:=h.one (Tn.set (p:=fun k=>k=c.bb) W ⟨c.bb,2,none⟩ (strV f) rfl) h.fbb (.inr (.inr (.inr (row_ty hB2 (.inr (.inl rfl))))))
 exact⟨⟨hc.ty,h.frd,h.fbb,h.fnm,h.fbt,h.fpb,h.frb,hc.rowC (s:=s) h (fun e=>by cases e),⟨vp,hB2,hP.same (hc.same h (fun e=>by cases e))⟩,hc.namesC (s:=s) h (fun e=>by cases e),hc.phonyC (s:=s) h (fun e=>by cases e),hc.tgtsC (s:=s) h (fun e=>by cases e) (fun _ e=>by cases e),fun i r hr=>hc.ruleC (s:=s) h (fun e=>by cases e) (fun e=>by cases e) hr,h.pl,h.ol⟩,hc.fr⟩
theorem RdM.toOf (h:RdM W F c rb s) {l:Ents} {name:Pl.Bs} {v v' :Value} {i:Nat} (hi:i<s.rules.length) (hll:l.length≤s.tl) (hP:∀n,PRow W F (.ent n) ((mget l n).getD (.slice none 0 0)) rb (s.of n)) (hv:(mget l name).getD (.slice none 0 0)=v) (hown:X.ownsRow 0 265 1 v' ((s.of name).length+1) ((s.of name).map (ptrV rb)++[ptrV rb i])) (hg:W.grownBy X v.ownBlock) (hf:v'.ownBlock=v.ownBlock∨v'.ownBlock=some W.heap.size) (hm:X.mapTurned Y c.bt) (hs:SMap Y c.bt (mput l name v')):
 RdM Y (F.own v v' (.ent name)) c rb {s with of:=ofPut s.of name (s.of name++[i]),tl:=s.tl+1}∧Fr F (F.own v v' (.ent name)) W Y:=by
 have hPn:=hP name;rw[hv] at hPn;obtain⟨hc,ho⟩:=h.grow hown hg hPn.2 hf (.inr (.inr (.inr (.inl rfl))));have hmt:=map_tn (p:=fun k=>k=c.bt) hm rfl;have hc2:=hc.then (t1:= .tgts) hmt h.fbt (.inr (.inl rfl))
 have hown2:Y.ownsRow 0 265 1 v' ((s.of name).length+1) ((s.of name).map (ptrV rb)++[ptrV rb i]):=own_same hown (fun k hk=>hmt.block k (hown.lt k hk).2 (fun e=>by
  obtain⟨cur,fz,q⟩:=own_type hown k hk;obtain⟨es,clock,es',clock',hb,-⟩:=hm;rw[e,hb] at q
  cases q))
 refine⟨⟨hc2.ty,hc2.keep _ _ h.frd (by simp),hc2.keep _ _ h.fbb (by simp),hc2.keep _ _ h.fnm (by simp),hc.keep _ _ h.fbt (by simp),hc2.keep _ _ h.fpb (by simp),fun j hj=>hc2.keep _ _ (h.frb j hj) (by simp),hc2.rowC (s:=s) h (by simp),hc2.bookC (s:=s) h (by simp) (by simp),hc2.namesC (s:=s) h (by simp),hc2.phonyC (s:=s) h (by simp),⟨_,hs,?_,fun n=> ?_⟩,fun j r hr=>hc2.ruleC (s:=s) h (by simp) (by simp) hr,h.pl,fun n j hj=> ?_⟩,hc2.fr⟩
 ·have:=mput_len l name v'
  show _≤s.tl+1;omega
 ·rw[mget_put]
  unfold ofPut
  by_cases e:n=name
  ·subst e
   simp only[if_true,Option.getD_some];refine⟨?_,ho⟩
   simpa using hown2
  ·simp only[if_neg e,if_neg (Ne.symm e)]
   exact(hP n).same (hc2.same h (by simp;exact e))
 ·simp only[ofPut] at hj
  split at hj
  ·rcases List.mem_append.1 hj with e|e
   ·exact h.ol name j e
   ·rw[List.mem_singleton] at e;subst e;exact hi
  ·exact h.ol n j hj
theorem RdM.toCmd (h:RdM W F c rb s) {i:Nat} {r:Rl} {vt vn vc vc' :Value} (hr:s.rules[i]?=some r) (hR:Row W (rb i) 273 [vt,vn,vc]) (h1:SlF W F vt r.tg) (h2:SlF W F vn r.nd) (h3:CRow W F (.cmds i) vc r.cs) {x:Pl.Bs×Nat} (hown:X.ownsRow 0 202 2 vc' (r.cs.length+1) (cmC r.cs++[strV x.1,.int .i64 (x.2:Int)])) (hg:W.grownBy X vc.ownBlock) (hf:vc'.ownBlock=vc.ownBlock∨vc'.ownBlock=some W.heap.size):
 RdM (X.setCell ⟨rb i,2,none⟩ vc') (F.own vc vc' (.cmds i)) c rb {s with rules:=s.rules.set i {r with cs:=r.cs++[x]}}∧Fr F (F.own vc vc' (.cmds i)) W (X.setCell ⟨rb i,2,none⟩ vc'):=by
 have hil:=(List.getElem?_eq_some_iff.1 hr).1;obtain⟨hc,ho⟩:=h.grow hown hg h3.2 hf (.inr (.inr (.inr (.inr rfl))));have hR2:Row X (rb i) 273 [vt,vn,vc]:=(hc.block h (h.frb i hil) (fun e=>by cases e)).trans hR;have hR3:Row (X.setCell ⟨rb i,2,none⟩ vc') (rb i) 273 [vt,vn,vc']:=Row.set hR2 2 vc'
 have hne:some (rb i)≠vc'.ownBlock:=fun e=>by
  obtain⟨cur,fz,q⟩:=own_type hown (rb i) e.symm;unfold Row at hR2;rw[hR2] at q;cases q
 have hc2:=hc.then (t1:= .rule i) (Tn.set (p:=fun k=>k=rb i) X ⟨rb i,2,none⟩ vc' rfl) (h.frb i hil) (.inr (.inr (.inr (row_ty hR3 (.inr (.inr (.inl rfl)))))))
 refine⟨⟨hc2.ty,hc2.keep _ _ h.frd (by simp),hc2.keep _ _ h.fbb (by simp),hc2.keep _ _ h.fnm (by simp),hc2.keep _ _ h.fbt (by simp),hc2.keep _ _ h.fpb (by simp),fun j hj=> ?_,hc2.rowC (s:=s) h (by simp),hc2.bookC (s:=s) h (by simp) (by simp),hc2.namesC (s:=s) h (by simp),hc2.phonyC (s:=s) h (by simp),hc2.tgtsC (s:=s) h (by simp) (by simp),fun j r' hr' => ?_,fun j hj=> ?_,fun n j hj=> ?_⟩,hc2.fr⟩
 ·rw[List.length_set] at hj
  exact hc.keep _ _ (h.frb j hj) (by simp)
 ·by_cases e:j=i
  ·subst e
   rw[List.getElem?_set_self hil] at hr';cases hr';refine⟨vt,vn,vc',hR3,hc2.free h1,hc2.free h2,?_,ho⟩;rw[cmC_snoc,List.length_append];exact owns_other hown hne 2 vc'
  ·rw[List.getElem?_set_ne (Ne.symm e)] at hr'
   exact hc2.ruleC (s:=s) h (by simp;exact e) (by simp;exact e) hr'
 ·rw[List.length_set];exact h.pl j hj
 ·rw[List.length_set];exact h.ol n j hj
end
open Classical in
noncomputable def expE (L:NL) (text:Pl.Bs):Cp.Er:=if h:∃r,Cp.Exp (nOf L) (fun _=>none) [] 0 [] text r then h.choose else⟨[],0,0⟩
theorem expE_eq {L:NL} {text:Pl.Bs} {r:Cp.Er} (h:Cp.Exp (nOf L) (fun _=>none) [] 0 [] text r):expE L text=r:=by
 have hx:∃r,Cp.Exp (nOf L) (fun _=>none) [] 0 [] text r:=⟨r,h⟩;unfold expE;rw[dif_pos hx];exact Cp.Exp.det hx.choose_spec h
def hcB (s:St) (i:Nat):Bool:=match s.rules[i]? with
 |some r=>decide (0<r.cs.length)
 |none=>false
def commandF (s:St) (op:Option Nat) (l:Mk.Ln):Nat×St:=match op with
 |none=>(1,s)
 |some i=>match s.rules[i]? with
  |none=>(1,s)
  |some r=>if r.cs.length=0∧(r.tg.any fun t=>(s.of t).any (hcB s))=true then(6,s) else(0,{s with rules:=s.rules.set i {r with cs:=r.cs++[(l.right,l.number)]}})
noncomputable def assignF (s:St) (l:Mk.Ln):Nat×St:=
 if l.kind=4 then(0,{s with names:=nPut s.names l.left ⟨l.right,true⟩})
 else((expE s.names l.right).er,{s with names:=nPut s.names l.left ⟨(expE s.names l.right).txt,false⟩})
def ofAdd (i:Nat) (s:St) (t:Pl.Bs):St:={s with of:=ofPut s.of t (s.of t++[i]),tl:=s.tl+1}
def explicitF (s:St) (tg:List Pl.Bs) (i:Nat):St:=tg.foldl (ofAdd i) (if s.first=[] then {s with first:=tg.headD []} else s)
def phonyB:Pl.Bs:=[46,80,72,79,78,89]
def addF (s:St) (tg nd:List Pl.Bs):Option Nat×St:=
 if tg=[phonyB] then(none,{s with ph:=nd.foldl phAdd s.ph})
 else if placeB (tg.headD [])=true then(some s.rules.length,{s with rules:=s.rules++[⟨tg,onceB nd [],[]⟩],pats:=s.pats++[s.rules.length]})
 else(some s.rules.length,explicitF {s with rules:=s.rules++[⟨tg,onceB nd [],[]⟩]} tg s.rules.length)
noncomputable def ruleF (s:St) (l:Mk.Ln):Nat×Option Nat×St:=
 if(expE s.names l.left).er≠0 then((expE s.names l.left).er,none,s)
 else if(expE s.names l.right).er≠0 then((expE s.names l.right).er,none,s)
 else if sidesB (Mk.words (expE s.names l.left).txt) (Mk.words (expE s.names l.right).txt)=false then(1,none,s)
 else if s.n=64 then(5,none,s)
 else(0,addF {s with n:=s.n+1} (Mk.words (expE s.names l.left).txt) (Mk.words (expE s.names l.right).txt))
section
variable (rec:St→Pl.Bs→Nat×Nat×St) (fs:List Pl.File)
def fileF (s:St) (w:Pl.Bs) (num:Nat):Nat×Nat×St:=match Pl.look fs w with
 |none=>(2,num,s)
 |some g=>
  if s.opn=3 then(3,num,s) else if s.inc=100 then(5,num,s)
  else((rec {s with inc:=s.inc+1,opn:=s.opn+1} g.text).1,(rec {s with inc:=s.inc+1,opn:=s.opn+1} g.text).2.1,{(rec {s with inc:=s.inc+1,opn:=s.opn+1} g.text).2.2 with opn:=(rec {s with inc:=s.inc+1,opn:=s.opn+1} g.text).2.2.opn-1})
def filesF (num:Nat):List Pl.Bs→St→Nat×Nat×St
 |[],s=>(0,0,s)
 |w::ws,s=>if(fileF rec fs s w num).1≠0 then fileF rec fs s w num else filesF num ws (fileF rec fs s w num).2.2
noncomputable def includeF (s:St) (l:Mk.Ln):Nat×Nat×St:=
 if(expE s.names l.right).er≠0 then((expE s.names l.right).er,l.number,s) else filesF rec fs l.number (Mk.words (expE s.names l.right).txt) s
noncomputable def lineF (s:St) (op:Option Nat) (l:Mk.Ln):Nat×Nat×Option Nat×St:=
 if l.kind=1 then((commandF s op l).1,l.number,op,(commandF s op l).2)
 else if l.kind=5 then((ruleF s l).1,l.number,(ruleF s l).2.1,(ruleF s l).2.2)
 else if l.kind=2 then((includeF rec fs s l).1,(includeF rec fs s l).2.1,none,(includeF rec fs s l).2.2)
 else((assignF s l).1,l.number,none,(assignF s l).2)
noncomputable def linesF:List (Mk.Ln×Nat)→St→Option Nat→Nat×Nat×St
 |[],s,_=>(0,0,s)
 |x::xs,s,op=>
  if x.2≠0 then(x.2,x.1.number,s)
  else if(lineF rec fs s op x.1).1≠0 then((lineF rec fs s op x.1).1,(lineF rec fs s op x.1).2.1,(lineF rec fs s op x.1).2.2.2)
  else linesF xs (lineF rec fs s op x.1).2.2.2 (lineF rec fs s op x.1).2.2.1
end
noncomputable def readF (fs:List Pl.File):Nat→St→Pl.Bs→Nat×Nat×St
 |0,s,text=>linesF (fun s _=>(3,0,s)) fs (Mk.allF (Mk.joined text)) s none
 |d+1,s,text=>linesF (readF fs d) fs (Mk.allF (Mk.joined text)) s none
def st0:St:=⟨[],[],[],[],fun _=>[],[],0,0,0,0⟩
noncomputable def bookF (fs:List Pl.File) (path:Pl.Bs):Nat×Nat×St:=match Pl.look fs path with
 |none=>(2,0,st0)
 |some g=>readF fs 3 st0 g.text
structure En (W:World) (F:Foot) (bx bf bi:Nat) (ve:Value) (ef:List Pl.Eff) (fs:List Pl.File) (clock:Int):Prop where
 pw:PW W bx bf bi ve ef fs clock
 glob:Glob W
 n1:F bx=none
 n2:F bf=none
 n3:F bi=none
 n4:F 0=none
section
variable {W X:World} {F G:Foot} {c:Ad} {rb:Nat→Nat} {s:St} {bx bf bi:Nat} {ve:Value} {ef:List Pl.Eff} {fs:List Pl.File} {clock:Int}
theorem glob_lt (h:Glob W):0<W.heap.size:=by
 obtain⟨m,hm⟩:=h;exact World.block_lt_of_cell? W _ hm
theorem En.fr (h:En W F bx bf bi ve ef fs clock) (hf:Fr F G W X):En X G bx bf bi ve ef fs clock:=by
 have l1:=h.pw.row.lt;have l2:=h.pw.files.lt;have l3:bi<W.heap.size:=by obtain⟨l,q,-⟩:=h.pw.first;exact q.lt
 have l4:=glob_lt h.glob;refine⟨h.pw.tn hf.tn (fun e=>e h.n1) (fun e=>e h.n2) (fun e=>e h.n3),?_,hf.old _ l1 h.n1,hf.old _ l2 h.n2,hf.old _ l3 h.n3,hf.old _ l4 h.n4⟩;obtain⟨m,hm⟩:=h.glob;refine⟨m,?_⟩;have:=hf.tn.block _ l4 (fun e=>e h.n4);unfold World.cell? at*;rw[this];exact hm
theorem En.later (h:En W F bx bf bi ve ef fs clock) (hb:Below W.heap.size W X):En X F bx bf bi ve ef fs clock:=h.fr (Fr.later hb)
theorem RdM.inj (h:RdM W F c rb s) {i j:Nat} (hi:i<s.rules.length) (hj:j<s.rules.length) (e:rb i=rb j):i=j:=by
 have h1:=h.frb i hi;rw[e,h.frb j hj] at h1;cases h1;rfl
theorem PRow.rdp {t:Tag} {v:Value} {xs:List Nat} (h:PRow W F t v rb xs):∃a cap b o,v= .slice a (xs.map rb).length cap∧(0<(xs.map rb).length→a=some ⟨b,o,none⟩∧b<W.heap.size∧RdP W b o (xs.map rb)):=by
 rw[List.length_map]
 rcases h.1.2 with⟨h1,h2⟩|⟨g,cap,cur,h1,h2,h3,h4⟩
 ·rw[h2]
  exact⟨none,0,0,0,h1,fun e=>by omega⟩
 ·refine⟨some ⟨g,0,none⟩,cap,g,0,h1,fun e=>⟨rfl,(Array.getElem?_eq_some_iff.1 h3).1,fun j r hj=> ?_⟩⟩
  have ho:=h.1;rw[h1] at ho;rw[List.getElem?_map] at hj;cases hx:xs[j]? with
  |none=>rw[hx] at hj;cases hj
  |some y=>
   rw[hx] at hj;cases hj;have hl:=(List.getElem?_eq_some_iff.1 hx).1;have:=own_cell ho j (by rw[List.length_map];exact hl);rw[Nat.zero_add,this,List.getElem_map,(List.getElem?_eq_some_iff.1 hx).2];rfl
open Classical in
theorem RdM.hcm (h:RdM W F c rb s) (hl:∀name,(s.of name).length≤1073741824):∃vp l,HcM W c.bb c.nm c.bt c.pb vp s.first l (fun n=>(s.of n).map rb) (fun b=>decide (∃i,i<s.rules.length∧rb i=b∧hcB s i=true)):=by
 obtain⟨vp,h1,h2⟩:=h.book;obtain⟨l,h3,h4,h5⟩:=h.tgts;refine⟨vp,l,h1,h3,fun name=>(h5 name).rdp,fun name r hr=> ?_,fun name=>by simp only[List.length_map];exact hl name⟩;obtain⟨i,hi,rfl⟩:=List.mem_map.1 hr;have hil:=h.ol name i hi;obtain⟨vt,vn,vc,q1,q2,q3,q4⟩:=h.rules i s.rules[i] (List.getElem?_eq_getElem hil);obtain⟨a,cap,rfl⟩:=own_sh q4.1
 refine⟨vt,vn,a,_,cap,q1,?_⟩;have hb:hcB s i=decide (0<s.rules[i].cs.length):=by unfold hcB;rw[List.getElem?_eq_getElem hil]
 rw[decide_eq_decide]
 constructor
 ·rintro⟨j,hj,he,hc⟩
  cases h.inj hj hil he;rw[hb] at hc
  simpa using hc
 ·intro e
  exact⟨i,hil,rfl,by rw[hb];simpa using e⟩
open Classical in
theorem RdM.any (h:RdM W F c rb s) (ts:List Pl.Bs):(ts.any fun t=>((s.of t).map rb).any (fun b=>decide (∃i,i<s.rules.length∧rb i=b∧hcB s i=true)))=ts.any fun t=>(s.of t).any (hcB s):=by
 congr 1
 funext t
 rw[List.any_map];rw[Bool.eq_iff_iff,List.any_eq_true,List.any_eq_true]
 constructor
 ·rintro⟨i,hi,hq⟩
  simp only[Function.comp,decide_eq_true_eq] at hq;obtain⟨j,hj,he,hc⟩:=hq;cases h.inj hj (h.ol t i hi) he;exact⟨_,hi,hc⟩
 ·rintro⟨i,hi,hq⟩
  exact⟨i,hi,by simp only[Function.comp,decide_eq_true_eq];exact⟨i,h.ol t i hi,rfl,hq⟩⟩
end
end Go.Proofs.YtjelacjggijmfaaGreatDoor
namespace Go.Mk
def rs (rest:Bs) (more:Bool):List Bs:=if more then segs rest else []
theorem segs_eq (t:Bs):segs t=before 10 t::rs (after 10 t) (has 10 t):=by
 unfold has
 induction t with
 |nil=>rfl
 |cons c r ih=>
  unfold segs
  by_cases h:c=10
  ·subst h
   simp[before,rs,after]
  ·have hb:(c==10)=false:=by simpa using h
   have hn:((10:UInt8)==c)=false:=by simpa using fun e=>h e.symm
   rw[hb,ih,List.contains_cons,hn];simp only[Bool.false_eq_true,if_false,List.headD_cons,List.tail_cons,Bool.false_or];have h1:before 10 (c::r)=c::before 10 r:=by unfold before;rw[List.takeWhile_cons,hb];rfl
   have h2:after 10 (c::r)=after 10 r:=by unfold after;rw[List.dropWhile_cons,hb];rfl
   rw[h1,h2]
theorem before_after (c:UInt8) (t:Bs):(before c t).length+(after c t).length+(if has c t then 1 else 0)=t.length:=by
 unfold has
 induction t with
 |nil=>rfl
 |cons x r ih=>
  by_cases h:x=c
  ·subst h
   simp[before,after]
  ·have hb:(x==c)=false:=by simpa using h
   have hn:(c==x)=false:=by simpa using fun e=>h e.symm
   have h1:before c (x::r)=x::before c r:=by unfold before;rw[List.takeWhile_cons,hb];rfl
   have h2:after c (x::r)=after c r:=by unfold after;rw[List.dropWhile_cons,hb];rfl
   rw[h1,h2,List.contains_cons,hn,Bool.false_or,List.length_cons,List.length_cons];omega
theorem segs_ne (t:Bs):segs t≠[]:=by rw[segs_eq];simp
theorem take1_on (acc:Bs) (used:Nat) (p rest:Bs) (h:endsBack p=true):
 take1 acc used p (rs rest true)=take1 (acc++p.dropLast++[32]) (used+1) (cutL (before 10 rest)) (rs (after 10 rest) (has 10 rest)):=by
 unfold rs;rw[if_pos rfl,segs_eq rest,take1,h];rfl
theorem take1_end (acc:Bs) (used:Nat) (p rest:Bs) (h:endsBack p=false):take1 acc used p (rs rest true)=(acc++p,used,rs rest true):=by
 unfold rs;rw[if_pos rfl,segs_eq rest,take1,h];rfl
theorem take1_last (acc:Bs) (used:Nat) (p rest:Bs):take1 acc used p (rs rest false)=(acc++noBack p,used,rs rest false):=by
 unfold rs;simp[take1]
def segTotal (ss:List Bs):Nat:=(ss.map (fun s=>s.length+1)).sum
def total (l:List (Nat×Bs)):Nat:=(l.map (fun x=>x.2.length+1)).sum
theorem segTotal_cons (p:Bs) (ps:List Bs):segTotal (p::ps)=p.length+1+segTotal ps:=by simp[segTotal]
theorem total_cons (x:Nat×Bs) (l:List (Nat×Bs)):total (x::l)=x.2.length+1+total l:=by simp[total]
theorem segTotal_segs (t:Bs):segTotal (segs t)=t.length+1:=by
 induction t with
 |nil=>rfl
 |cons c r ih=>
  unfold segs
  by_cases h:c=10
  ·subst h
   simp only[beq_self_eq_true,if_true,segTotal_cons,ih,List.length_nil,List.length_cons];omega
  ·have hb:(c==10)=false:=by simpa using h
   rw[hb];simp only[Bool.false_eq_true,if_false];have hne:=segs_ne r;cases hs:segs r with
   |nil=>exact absurd hs hne
   |cons p ps=>
    rw[hs] at ih;simp only[segTotal_cons,List.headD_cons,List.tail_cons,List.length_cons] at*;omega
theorem noBack_le' (l:Bs):(noBack l).length≤l.length:=rdrop_le _ l
theorem take1_total:∀(ps:List Bs) (acc:Bs) (used:Nat) (p:Bs),(take1 acc used p ps).1.length+1+segTotal (take1 acc used p ps).2.2≤acc.length+p.length+1+segTotal ps
 |[],acc,used,p=>by
  have:=noBack_le' p;simp only[take1,List.length_append];omega
 |q::qs,acc,used,p=>by
  unfold take1;cases h:endsBack p with
  |true=>
   simp only[if_true];have ih:=take1_total qs (acc++p.dropLast++[32]) (used+1) (cutL q);have h1:=cutL_le q
   have h2:p.dropLast.length+1=p.length:=by
    cases p with
    |nil=>simp[endsBack] at h
    |cons a r=>simp
   simp only[List.length_append,List.length_cons,List.length_nil,segTotal_cons] at*;omega
  |false=>
   simp only[Bool.false_eq_true,if_false,List.length_append,segTotal_cons];omega
theorem joinF_total:∀(f n:Nat) (ss:List Bs),total (joinF f n ss)≤segTotal ss
 |0,_,_=>by simp[joinF,total]
 |_+1,_,[]=>by simp[joinF,total]
 |f+1,n,p::ps=>by
  have h1:=take1_total ps [] 1 p;have h2:=joinF_total f (n+(take1 [] 1 p ps).2.1) (take1 [] 1 p ps).2.2;rw[joinF,total_cons,segTotal_cons];simp only[List.length_nil] at*;omega
theorem joined_total (t:Bs):total (joined t)≤t.length+1:=by
 rw[←segTotal_segs];exact joinF_total _ _ _
theorem mem_total:∀{l:List (Nat×Bs)} {x:Nat×Bs},x∈l→x.2.length+1≤total l
 |y::l,x,h=>by
  rw[total_cons]
  rcases List.mem_cons.1 h with rfl|h
  ·omega
  ·have:=mem_total h;omega
theorem joined_len {t:Bs} {x:Nat×Bs} (h:x∈joined t):x.2.length≤t.length:=by
 have h1:=mem_total h;have h2:=joined_total t;omega
theorem before_le' (c:UInt8) (l:Bs):(before c l).length≤l.length:=by unfold before;exact(List.takeWhile_prefix _).length_le
theorem parse_len (w:Bs):(parse w).1.left.length≤w.length∧(parse w).1.right.length≤w.length∧(parse w).1.kind≤5:=by
 unfold parse;split
 ·unfold parseCmd
  split
  ·simp[Ln.zero]
  ·have:=cutL_le w
   simp only[List.length_nil];omega
 ·have h1:=cut_le (before 35 w)
  have h2:=before_le' 35 w;generalize cut (before 35 w)=T at*;split
  ·simp[Ln.zero]
  ·split
   ·unfold parseIncl
    split
    ·simp[Ln.zero]
    ·have h3:=cut_le (T.drop 7)
     simp only[List.length_nil,List.length_drop] at*;omega
   ·unfold parseSides
    split
    ·simp[Ln.zero]
    ·split
     ·have h3:=cut_le (T.takeWhile noSign)
      have h4:=cut_le (kindOf (T.dropWhile noSign)).2;have h5:=kindOf_le (T.dropWhile noSign);have h6:=dropWhile_le noSign T;have h7:(T.takeWhile noSign).length≤T.length:=(List.takeWhile_prefix _).length_le;have h8:(kindOf (T.dropWhile noSign)).1≤5:=by unfold kindOf;split<;>simp
      simp only;omega
     ·simp[Ln.zero]
def cost (l:List (Ln×Nat)):Nat:=(l.map (fun x=>x.1.left.length+x.1.right.length+12)).sum
theorem cost_cons (x:Ln×Nat) (l:List (Ln×Nat)):cost (x::l)=x.1.left.length+x.1.right.length+12+cost l:=by simp[cost]
theorem cost_allF:∀js:List (Nat×Bs),cost (allF js)≤12*total js
 |[]=>by simp[allF,cost]
 |(n,w)::r=>by
  have ih:=cost_allF r;have h:=parse_len w;rw[total_cons];unfold allF;split
  ·omega
  ·rw[cost_cons]
   split
   ·simp only;omega
   ·simp only[cost,List.map_nil,List.sum_nil];omega
theorem cost_all (t:Bs):cost (allF (joined t))≤12*(t.length+1):=by
 have h1:=cost_allF (joined t);have h2:=joined_total t;omega
theorem allF_mem:∀{js:List (Nat×Bs)} {x:Ln×Nat},x∈allF js→∃y∈js,x=({(parse y.2).1 with number:=y.1},(parse y.2).2)
 |(n,w)::r,x,h=>by
  unfold allF at h;split at h
  ·obtain⟨y,hy,e⟩:=allF_mem h
   exact⟨y,List.mem_cons_of_mem _ hy,e⟩
  ·rcases List.mem_cons.1 h with rfl|h
   ·exact⟨(n,w),List.mem_cons_self ..,rfl⟩
   ·split at h
    ·obtain⟨y,hy,e⟩:=allF_mem h
     exact⟨y,List.mem_cons_of_mem _ hy,e⟩
    ·cases h
theorem all_len {t:Bs} {x:Ln×Nat} (h:x∈allF (joined t)):x.1.left.length≤t.length∧x.1.right.length≤t.length∧x.1.kind≤5:=by
 obtain⟨y,hy,rfl⟩:=allF_mem h;have h1:=joined_len hy;have h2:=parse_len y.2;simp only;omega
end Go.Mk
