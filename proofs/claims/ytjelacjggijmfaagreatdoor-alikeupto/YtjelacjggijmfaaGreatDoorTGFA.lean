/-
  compile.stepsOf behind goals.Order, and what is left to do then.
-/
import Derived.Test.YtjelacjggijmfaaGreatDoorTGF5
import Derived.Test.YtjelacjggijmfaaGreatDoorTWS3
import Derived.Test.YtjelacjggijmfaaGreatDoorTWRB
set_option maxHeartbeats 4000000
set_option maxRecDepth 100000
namespace Go.Proofs.YtjelacjggijmfaaGreatDoor
open Go.RowKit Go.MapKept Go.ChangeMaps Go.Maps
theorem flagOf_put (k n:Pl.Bs) (v:Nat):∀fl:Flags,flagOf (flPut fl k v) n=if k=n then v else flagOf fl n
 |[]=>by
  unfold flagOf flPut
  by_cases h:k=n
  ·rw[if_pos h,List.find?_cons_of_pos (by simpa using h)];rfl
  ·rw[if_neg h,List.find?_cons_of_neg (by simpa using h)]
 |x::r=>by
  have ih:=flagOf_put k n v r;rw[flPut]
  by_cases hx:x.1=k
  ·rw[if_pos (beq_iff_eq.2 hx)]
   unfold flagOf
   by_cases h:k=n
   ·rw[if_pos h,List.find?_cons_of_pos (by simpa using h)];rfl
   ·rw[if_neg h,List.find?_cons_of_neg (by simpa using h),List.find?_cons_of_neg (by rw[hx];simpa using h)]
  ·rw[if_neg (by simpa using hx)]
   by_cases h:x.1=n
   ·have hk:k≠n:=fun q=>hx (h.trans q.symm)
    rw[if_neg hk];unfold flagOf;rw[List.find?_cons_of_pos (by simpa using h),List.find?_cons_of_pos (by simpa using h)]
   ·have e1:flagOf (x::flPut r k v) n=flagOf (flPut r k v) n:=by
     unfold flagOf;rw[List.find?_cons_of_neg (by simpa using h)]
    have e2:flagOf (x::r) n=flagOf r n:=by
     unfold flagOf;rw[List.find?_cons_of_neg (by simpa using h)]
    rw[e1,e2];exact ih
def LkOk (two:Pl.Bs→Prop) (pend:Option Pl.Bs):List (Nod×Nat)→Prop
 |[]=>True
 |x::r=>(∀j,j<x.2→two (x.1.needs.getD j [])∨(∃y∈r,y.1.name=x.1.needs.getD j [])∨pend=some (x.1.needs.getD j []))∧LkOk two pend r
theorem LkOk.bump {two:Pl.Bs→Prop} {x:Nod×Nat}:∀d:List (Nod×Nat),LkOk two none (d++[x])→LkOk two (some (x.1.needs.getD x.2 [])) (d++[(x.1,x.2+1)])
 |[],h=>by
  refine⟨fun j hj=> ?_,trivial⟩
  by_cases e:j=x.2
  ·rw[e];exact .inr (.inr rfl)
  ·rcases h.1 j (by simp only at hj;omega) with q|⟨y,q,_⟩|q
   ·exact .inl q
   ·cases q
   ·cases q
 |z::r,h=>by
  refine⟨fun j hj=> ?_,LkOk.bump r h.2⟩
  rcases h.1 j hj with q|⟨y,q,e⟩|q
  ·exact .inl q
  ·refine .inr (.inl ?_)
   rcases List.mem_append.1 q with q|q
   ·exact⟨y,List.mem_append_left _ q,e⟩
   ·rw[List.mem_singleton] at q
    rw[q] at e;exact⟨(x.1,x.2+1),List.mem_append_right _ (List.mem_singleton.2 rfl),e⟩
  ·cases q
theorem LkOk.push {two two' :Pl.Bs→Prop} {z:Nod×Nat} (ht:∀n,two n→two' n) (hz:z.2=0):∀d:List (Nod×Nat),LkOk two (some z.1.name) d→LkOk two' none (d++[z])
 |[],_=>⟨fun j hj=>(by rw[hz] at hj;cases hj),trivial⟩
 |x::r,h=>by
  refine⟨fun j hj=> ?_,LkOk.push ht hz r h.2⟩
  rcases h.1 j hj with q|⟨y,q,e⟩|q
  ·exact .inl (ht _ q)
  ·exact .inr (.inl ⟨y,List.mem_append_left _ q,e⟩)
  ·refine .inr (.inl ⟨z,List.mem_append_right _ (List.mem_singleton.2 rfl),?_⟩)
   exact Option.some.inj q
theorem LkOk.seen {two:Pl.Bs→Prop} {nm:Pl.Bs} (hn:two nm):∀d:List (Nod×Nat),LkOk two (some nm) d→LkOk two none d
 |[],_=>trivial
 |x::r,h=>by
  refine⟨fun j hj=> ?_,LkOk.seen hn r h.2⟩
  rcases h.1 j hj with q|q|q
  ·exact .inl q
  ·exact .inr (.inl q)
  ·exact .inl (Option.some.inj q▸hn)
theorem LkOk.leave {two two' :Pl.Bs→Prop} {x:Nod×Nat} (ht:∀n,two n→two' n) (hx:two' x.1.name):∀d:List (Nod×Nat),LkOk two none (d++[x])→LkOk two' none d
 |[],_=>trivial
 |z::r,h=>by
  refine⟨fun j hj=> ?_,LkOk.leave ht hx r h.2⟩
  rcases h.1 j hj with q|⟨y,q,e⟩|q
  ·exact .inl (ht _ q)
  ·rcases List.mem_append.1 q with q|q
   ·exact .inr (.inl ⟨y,q,e⟩)
   ·rw[List.mem_singleton] at q
    rw[q] at e;exact .inl (e▸hx)
  ·cases q
theorem LkOk.last {two:Pl.Bs→Prop} {x:Nod×Nat}:∀d:List (Nod×Nat),LkOk two none (d++[x])→∀j,j<x.2→two (x.1.needs.getD j [])
 |[],h,j,hj=>by
  rcases h.1 j hj with q|⟨y,q,_⟩|q
  ·exact q
  ·cases q
  ·cases q
 |_::r,h,j,hj=>LkOk.last r h.2 j hj
structure OvI (s:St) (fs:List Pl.File) (us:List (Nat×List Pl.Bs)) (pend:Option Pl.Bs) (t:Wst):Prop where
 nodo:∀x∈t.opn,x.1=(nodeF s fs us x.1.name).1∧flagOf t.sts x.1.name=1
 opd:(t.opn.map (·.1.name)).Nodup
 lk:LkOk (fun n=>flagOf t.sts n=2) pend t.opn
 ovn:∀x∈t.over,x=(nodeF s fs us x.name).1∧flagOf t.sts x.name=2∧∀n∈x.needs,flagOf t.sts n=2
 ovd:(t.over.map (·.name)).Nodup
 all:t.over.length≤100→∀n,flagOf t.sts n=2→∃x∈t.over,x.name=n
section
variable {s:St} {fs:List Pl.File} {us:List (Nat×List Pl.Bs)} {t:Wst}
theorem enter_ov {name:Pl.Bs} (h:OvI s fs us (some name) t) (h0:(enterF s fs us t name).1=0):OvI s fs us none (enterF s fs us t name).2:=by
 unfold enterF at h0⊢
 by_cases h2:flagOf t.sts name=2
 ·rw[if_pos h2];exact⟨h.nodo,h.opd,LkOk.seen (two:=fun n=>flagOf t.sts n=2) h2 _ h.lk,h.ovn,h.ovd,h.all⟩
 rw[if_neg h2] at h0⊢
 by_cases h1:flagOf t.sts name=1
 ·rw[if_pos h1] at h0;cases h0
 rw[if_neg h1] at h0⊢
 by_cases h3:(nodeF s fs us name).2=false
 ·rw[if_pos h3] at h0;cases h0
 rw[if_neg h3] at h0⊢
 have up:∀n v,flagOf t.sts n=v→n≠name→flagOf (flPut t.sts name 1) n=v:=fun n v e hn=>by
  rw[flagOf_put,if_neg (fun q=>hn q.symm)];exact e
 have up2:∀n,flagOf t.sts n=2→flagOf (flPut t.sts name 1) n=2:=fun n e=>up n 2 e (fun q=>h2 (q▸e))
 refine⟨fun x hx=> ?_,?_,?_,fun x hx=> ?_,h.ovd,fun hl n hn=> ?_⟩
 ·rcases List.mem_append.1 hx with q|q
  ·obtain⟨q1,q2⟩:=h.nodo x q
   exact⟨q1,up _ 1 q2 (fun e=>h1 (e▸q2))⟩
  ·rw[List.mem_singleton] at q
   rw[q];simp only[nodeF_name];exact⟨trivial,by rw[flagOf_put,if_pos rfl]⟩
 ·simp only[List.map_append,List.map_cons,List.map_nil,nodeF_name]
  rw[List.nodup_append];refine⟨h.opd,by simp,fun a ha b hb e=> ?_⟩;rw[List.mem_singleton] at hb;obtain⟨x,q1,q2⟩:=List.mem_map.1 ha;have:=(h.nodo x q1).2;rw[q2,e,hb] at this;exact h1 this
 ·refine LkOk.push (two:=fun n=>flagOf t.sts n=2) up2 rfl _ ?_
  rw[nodeF_name];exact h.lk
 ·obtain⟨q1,q2,q3⟩:=h.ovn x hx
  exact⟨q1,up2 _ q2,fun n hn=>up2 n (q3 n hn)⟩
 ·simp only at hl hn
  rw[flagOf_put] at hn;split at hn
  ·cases hn
  ·exact h.all hl n hn
theorem goOn_ov (h:OvI s fs us none t) {x:Nod×Nat} (hl:t.opn.getLast?=some x) (h0:(goOnF s fs us t).1=0):OvI s fs us none (goOnF s fs us t).2:=by
 obtain⟨d,hd⟩:=List.getLast?_eq_some_iff.1 hl;have hdl:t.opn.dropLast=d:=by rw[hd,List.dropLast_concat]
 have hx:=h.nodo x (by rw[hd];exact List.mem_append_right _ (List.mem_singleton.2 rfl));have hlk:=h.lk;have hop:=h.opd;rw[hd] at hlk hop;rw[List.map_append,List.nodup_append] at hop;unfold goOnF at h0⊢;rw[hl] at h0⊢;simp only at h0⊢
 by_cases hq:x.2=x.1.needs.length
 ·rw[if_pos hq] at h0⊢
  unfold leaveF;rw[hl];simp only[hdl]
  have up2:∀n,flagOf t.sts n=2→flagOf (flPut t.sts x.1.name 2) n=2:=fun n e=>by
   rw[flagOf_put];split
   ·rfl
   ·exact e
  have hme:flagOf (flPut t.sts x.1.name 2) x.1.name=2:=by rw[flagOf_put,if_pos rfl]
  have hnew:∀n∈x.1.needs,flagOf (flPut t.sts x.1.name 2) n=2:=fun n hn=>by
   obtain⟨j,hj⟩:=List.getElem?_of_mem hn;have hjl:j<x.1.needs.length:=(List.getElem?_eq_some_iff.1 hj).1;have e:=LkOk.last (two:=fun n=>flagOf t.sts n=2) d hlk j (by omega);rw[List.getD_eq_getElem?_getD,hj] at e;exact up2 n e
  have hold:∀y∈t.over,y=(nodeF s fs us y.name).1∧flagOf (flPut t.sts x.1.name 2) y.name=2∧∀n∈y.needs,flagOf (flPut t.sts x.1.name 2) n=2:=fun y hy=>by
   obtain⟨q1,q2,q3⟩:=h.ovn y hy;exact⟨q1,up2 _ q2,fun n hn=>up2 n (q3 n hn)⟩
  refine⟨fun y hy=> ?_,hop.1,LkOk.leave (two:=fun n=>flagOf t.sts n=2) up2 hme d hlk,fun y hy=> ?_,?_,fun hle n hn=> ?_⟩
  ·obtain⟨q1,q2⟩:=h.nodo y (by rw[hd];exact List.mem_append_left _ hy)
   refine⟨q1,?_⟩;have hne:x.1.name≠y.1.name:=fun e=>hop.2.2 y.1.name (List.mem_map.2 ⟨y,hy,rfl⟩) x.1.name (List.mem_singleton.2 rfl) e.symm
   simp only;rw[flagOf_put,if_neg hne];exact q2
  ·simp only at hy
   split at hy
   ·rcases List.mem_append.1 hy with q|q
    ·exact hold y q
    ·rw[List.mem_singleton] at q
     rw[q];exact⟨hx.1,hme,hnew⟩
   ·exact hold y hy
  ·simp only
   split
   ·rw[List.map_append,List.nodup_append]
    refine⟨h.ovd,by simp,fun a ha b hb e=> ?_⟩;simp only[List.map_cons,List.map_nil,List.mem_singleton] at hb;obtain⟨y,q1,q2⟩:=List.mem_map.1 ha;have e2:=(h.ovn y q1).2.1;rw[q2,e,hb,hx.2] at e2;cases e2
   ·exact h.ovd
  ·simp only at hle hn⊢
   split at hle
   ·rename_i hc
    rw[if_pos hc];rw[flagOf_put] at hn;split at hn
    ·rename_i e
     exact⟨x.1,List.mem_append_right _ (List.mem_singleton.2 rfl),e⟩
    ·obtain⟨y,q1,q2⟩:=h.all hc n hn
     exact⟨y,List.mem_append_left _ q1,q2⟩
   ·rename_i hc
    exact absurd hle hc
 ·rw[if_neg hq] at h0⊢
  rw[hdl] at h0⊢;refine enter_ov ⟨fun y hy=> ?_,?_,LkOk.bump (two:=fun n=>flagOf t.sts n=2) d hlk,h.ovn,h.ovd,h.all⟩ h0
  ·rcases List.mem_append.1 hy with q|q
   ·exact h.nodo y (by rw[hd];exact List.mem_append_left _ q)
   ·rw[List.mem_singleton] at q
    rw[q];exact hx
  ·have:=h.opd
   rw[hd] at this;simp only[List.map_append,List.map_cons,List.map_nil] at this⊢;exact this
end
theorem onceB_nodup:∀l acc:List Pl.Bs,acc.Nodup→(onceB l acc).Nodup
 |[],_,h=>h
 |x::r,acc,h=>by
  unfold onceB;split
  ·exact onceB_nodup r acc h
  ·rename_i hx
   refine onceB_nodup r _ ?_;rw[List.nodup_append];refine⟨h,by simp,fun a ha b hb e=> ?_⟩;rw[List.mem_singleton] at hb;exact hx (hb▸e▸ha)
structure NdU (s:St):Prop where
 nd:∀r∈s.rules,r.nd.Nodup
theorem NdU.add {s:St} (h:NdU s) (tg nd:List Pl.Bs):NdU (addF s tg nd).2:=by
 have hc:∀r∈s.rules++[⟨tg,onceB nd [],[]⟩],r.nd.Nodup:=fun r hr=>by
  rcases List.mem_append.1 hr with e|e
  ·exact h.nd r e
  ·rw[List.mem_singleton] at e;rw[e];exact onceB_nodup nd [] List.nodup_nil
 unfold addF;split
 ·exact⟨h.nd⟩
 ·split
  ·exact⟨hc⟩
  ·have key:∀f:Pl.Bs,NdU (tg.foldl (ofAdd s.rules.length) {s with rules:=s.rules++[⟨tg,onceB nd [],[]⟩],first:=f}):=fun f=>by
    have e:=(ofAdd_fold s.rules.length tg {s with rules:=s.rules++[⟨tg,onceB nd [],[]⟩],first:=f}).2.1;refine⟨?_⟩;rw[e];exact hc
   unfold explicitF;simp only;split
   ·exact key _
   ·exact key s.first
theorem ndu_kept:LnKept NdU where
 assign s l h:=by
  unfold assignF;split<;>exact⟨h.nd⟩
 command s op l h:=by
  unfold commandF;split
  ·exact h
  ·split
   ·exact h
   ·rename_i i _ r hr
    split
    ·exact h
    ·refine⟨fun x hx=> ?_⟩
     rcases List.mem_or_eq_of_mem_set hx with e|e
     ·exact h.nd x e
     ·rw[e];exact h.nd r (List.mem_of_getElem? hr)
 rule s l h:=by
  unfold ruleF;split
  ·exact h
  ·split
   ·exact h
   ·split
    ·exact h
    ·split
     ·exact h
     ·exact NdU.add (s:={s with n:=s.n+1}) ⟨h.nd⟩ _ _
 ctr s a b h:=⟨h.nd⟩
theorem ndu_book (fs:List Pl.File) (path:Pl.Bs):NdU (bookF fs path).2.2:=bookF_kept ndu_kept ⟨fun _ hn=>(by cases hn)⟩ path
section
variable {s:St} {fs:List Pl.File} {us:List (Nat×List Pl.Bs)}
theorem needsL_nodup (h:NdU s) (xs:List Nat):(needsL s xs).Nodup:=by
 unfold needsL;split
 ·by_cases hi:xs.headD 0<s.rules.length
  ·exact h.nd _ (rlOf_mem hi)
  ·have e:rlOf s (xs.headD 0)=⟨[],[],[]⟩:=by
    unfold rlOf;rw[List.getD_eq_getElem?_getD,List.getElem?_eq_none (by omega)];rfl
   rw[e];exact List.nodup_nil
 ·exact onceB_nodup _ _ List.nodup_nil
theorem nodeF_nodup (h:NdU s) (name:Pl.Bs):(nodeF s fs us name).1.needs.Nodup:=by
 unfold nodeF;split
 ·split
  ·exact onceB_nodup _ _ List.nodup_nil
  ·exact needsL_nodup h _
 ·exact needsL_nodup h _
theorem ov0 (g:Pl.Bs):OvI s fs us (some g) wst0:=⟨fun _ hx=>(by cases hx),List.nodup_nil,trivial,fun _ hx=>(by cases hx),List.nodup_nil,fun _ n hn=>(by cases hn)⟩
theorem fromF_ov:∀(n:Nat) (p r:Nat×Wst),fromF s fs us n p=some r→(p.1=0→OvI s fs us none p.2)→r.1=0→OvI s fs us none r.2∧r.2.opn=[]
 |0,p,r,h,hp,h0=>by
  rw[fromF] at h;split at h
  ·rename_i q
   cases h
   rcases q with q|q
   ·exact absurd h0 q
   ·exact⟨hp h0,q⟩
  ·cases h
 |n+1,p,r,h,hp,h0=>by
  rw[fromF] at h;split at h
  ·rename_i q
   cases h
   rcases q with q|q
   ·exact absurd h0 q
   ·exact⟨hp h0,q⟩
  ·rename_i q
   have hz:p.1=0:=Classical.byContradiction fun e=>q (.inl e)
   have hne:p.2.opn≠[]:=fun e=>q (.inr e)
   cases hl:p.2.opn.getLast? with
   |none=>rw[List.getLast?_eq_none_iff] at hl;exact absurd hl hne
   |some x=>exact fromF_ov n _ r h (fun e=>goOn_ov (hp hz) hl e) h0
theorem walk_ov {g:Pl.Bs} {r:Nat×Wst} (h:FromR s fs us (enterF s fs us wst0 g) r) (h0:r.1=0):OvI s fs us none r.2∧r.2.opn=[]:=by
 obtain⟨n,hn⟩:=h;exact fromF_ov n _ r hn (fun e=>enter_ov (ov0 g) e) h0
theorem over_needs (hu:NdU s) {t:Wst} (h:OvI s fs us none t) (hl:t.over.length≤100) {x:Nod} (hx:x∈t.over):x.needs.length≤100∧∀n∈x.needs,∃y∈t.over,y.name=n:=by
 obtain⟨q1,_,q3⟩:=h.ovn x hx;have hn:∀n∈x.needs,∃y∈t.over,y.name=n:=fun n hn=>h.all hl n (q3 n hn)
 refine⟨?_,hn⟩;have hd:x.needs.Nodup:=by rw[q1];exact nodeF_nodup hu _
 have:=nodupU x.needs (t.over.map (·.name)) hd (fun n hn' =>by
  obtain⟨y,a,b⟩:=hn n hn'
  exact List.mem_map.2 ⟨y,a,b⟩)
 rw[List.length_map] at this;omega
end
theorem vnC_at:∀(qs:List Vq) (i j:Nat) (hi:i<qs.length),j<5→(qs.flatMap vnC)[i*5+j]?=(vnC qs[i])[j]?
 |[],_,_,hi,_=>by cases hi
 |q::r,0,j,_,hj=>by
  rw[List.flatMap_cons,Nat.zero_mul,Nat.zero_add,List.getElem?_append_left (by show j<5;exact hj)];rfl
 |q::r,i+1,j,hi,hj=>by
  have e:(i+1)*5+j-5=i*5+j:=by omega
  rw[List.flatMap_cons,List.getElem?_append_right (by show 5≤(i+1)*5+j;omega)];show(r.flatMap vnC)[(i+1)*5+j-5]?=_;rw[e];exact vnC_at r i j (by simpa using hi) hj
theorem heap_lt {W:World} {b:Nat} {o:Obj} (h:W.heap[b]?=some o):b<W.heap.size:=by
 rcases Nat.lt_or_ge b W.heap.size with q|q
 ·exact q
 ·rw[Array.getElem?_eq_none q] at h;cases h
section
variable {W:World} {q:Vq} {L g cap:Nat} {qv:List Vq}
theorem VqT.ndr (h:VqT W q) {b o:Nat} (hr:Row6 W b o (vnC q)):NdR W W.heap.size b o q.nd:=by
 obtain⟨h1,h2⟩:=h;unfold vnC at hr
 rcases h1 with⟨e1,z1⟩|⟨b1,o1,c1,e1,l1,r1,cs1,f1,p1⟩<;>rcases h2 with⟨e2,z2⟩|⟨b2,o2,c2,e2,r2,cs2,f2,p2⟩
 ·rw[e1,e2] at hr
  exact⟨none,none,0,0,0,0,0,0,by rw[z1,z2];exact hr,by rw[z1];exact Nat.le_refl _,fun q=>(by rw[z1] at q;cases q),fun q=>by rw[z2] at q;cases q⟩
 ·rw[e1,e2] at hr
  exact⟨none,_,0,c2,0,0,b2,o2,by rw[z1];exact hr,by rw[z1];exact Nat.le_refl _,fun q=>(by rw[z1] at q;cases q),fun _=>⟨rfl,heap_lt p2,r2⟩⟩
 ·rw[e1,e2] at hr
  exact⟨_,none,c1,0,b1,o1,0,0,by rw[z2];exact hr,l1,fun _=>⟨rfl,heap_lt p1,r1⟩,fun q=>by rw[z2] at q;cases q⟩
 ·rw[e1,e2] at hr
  exact⟨_,_,c1,c2,b1,o1,b2,o2,hr,l1,fun _=>⟨rfl,heap_lt p1,r1⟩,fun _=>⟨rfl,heap_lt p2,r2⟩⟩
theorem nodes_ndr (h:W.ownsRow L 197 5 (.slice (some ⟨g,0,none⟩) qv.length cap) qv.length (qv.flatMap vnC)) (hv:∀q∈qv,VqT W q) (i:Nat) (hi:i<(qv.map Vq.nd).length):NdR W W.heap.size g (0+i*5) (qv.map Vq.nd)[i]:=by
 have hi' :i<qv.length:=by rwa [List.length_map] at hi
 rw[List.getElem_map];refine VqT.ndr (hv _ (List.getElem_mem hi')) (fun j u hj=> ?_)
 have hj5:j<5:=by
  rcases Nat.lt_or_ge j 5 with q|q
  ·exact q
  ·rw[List.getElem?_eq_none (by show 5≤j;exact q)] at hj;cases hj
 rw[Nat.zero_add];exact own_cell2 h (i*5+j) u ((vnC_at qv i j hi' hj5).trans hj)
end
theorem lens_le (P:Nat):∀xs:List Pl.Bs,(∀x∈xs,x.length≤P)→Lib.lens xs≤xs.length*P
 |[],_=>by simp[Lib.lens]
 |x::r,h=>by
  have ih:=lens_le P r (fun y hy=>h y (List.mem_cons_of_mem _ hy));have h1:=h x (List.mem_cons_self ..);have e:Lib.lens (x::r)=x.length+Lib.lens r:=by simp[Lib.lens]
  rw[e,List.length_cons,Nat.succ_mul];omega
theorem flagOf_none (k:Pl.Bs) (fl:Flags) (h:k∉keysF fl):flagOf fl k=0:=by
 unfold flagOf;rw[List.find?_eq_none.2 (fun x hx q=>h (List.mem_map.2 ⟨x,hx,beq_iff_eq.1 q⟩))];rfl
section
variable {s:St} {fs:List Pl.File} {us:List (Nat×List Pl.Bs)} {U:List Pl.Bs} {C k:Nat}
theorem fromF_keep (J:Wst→Prop) (hJ:∀t x,J t→t.opn.getLast?=some x→(goOnF s fs us t).1=0→J (goOnF s fs us t).2):∀(n:Nat) (p r:Nat×Wst),fromF s fs us n p=some r→(p.1=0→J p.2)→r.1=0→J r.2
 |0,p,r,h,hp,h0=>by
  rw[fromF] at h;split at h
  ·cases h;exact hp h0
  ·cases h
 |n+1,p,r,h,hp,h0=>by
  rw[fromF] at h;split at h
  ·cases h;exact hp h0
  ·rename_i q
   have hz:p.1=0:=Classical.byContradiction fun e=>q (.inl e)
   have hne:p.2.opn≠[]:=fun e=>q (.inr e)
   cases hl:p.2.opn.getLast? with
   |none=>rw[List.getLast?_eq_none_iff] at hl;exact absurd hl hne
   |some x=>exact fromF_keep J hJ n _ r h (fun e=>hJ _ x (hp hz) hl e) h0
theorem walk_inv (hU:Uni s fs us U C) {g:Pl.Bs} (hg:g∈U) {r:Nat×Wst} (h:FromR s fs us (enterF s fs us wst0 g) r) (h0:r.1=0):WInv U C r.2:=by
 obtain⟨n,hn⟩:=h;exact fromF_keep (WInv U C) (fun t x a b c=>((from_ok hU).step t x a b c).1) n _ r hn (fun e=>(enter_inv hU winv0 g hg e).1) h0
theorem over_name {t:Wst} (hw:WInv U C t) (h:OvI s fs us none t) {x:Nod} (hx:x∈t.over):x.name∈U:=by
 obtain⟨_,q2,_⟩:=h.ovn x hx;refine hw.key _ (Classical.byContradiction fun e=> ?_);rw[flagOf_none _ _ e] at q2;cases q2
theorem cmdsL_of (P:List (Pl.Bs×Nat)→Prop) (h0:P []):∀xs:List Nat,(∀i∈xs,P (rlOf s i).cs)→P (cmdsL s xs)
 |[],_=>h0
 |i::r,h=>by
  unfold cmdsL;split
  ·exact h i (List.mem_cons_self ..)
  ·exact cmdsL_of P h0 r (fun j hj=>h j (List.mem_cons_of_mem _ hj))
theorem nodeF_parts (P:List (Pl.Bs×Nat)→Prop) (h0:P []) (hr:∀i,i<s.rules.length→P (rlOf s i).cs) (hol:∀name,∀i∈s.of name,i<s.rules.length) (hus:∀x∈us,x.1<s.rules.length) (name:Pl.Bs):
 P (nodeF s fs us name).1.cmds∧(nodeF s fs us name).1.stem.length≤name.length:=by
 have hc:P (cmdsL s (s.of name)):=cmdsL_of P h0 _ (fun i hi=>hr i (hol name i hi));unfold nodeF;split
 ·split
  ·rename_i i stem e
   obtain⟨⟨x,q1,q2⟩,q3⟩:=fitL_mem e;exact⟨hr i (q2▸hus x q1),q3⟩
  ·exact⟨hc,Nat.zero_le _⟩
 ·exact⟨hc,Nat.zero_le _⟩
theorem over_ndb (hok:Ok s k) (hk:k≤2000000000) (hu:NdU s) (hol:∀name,∀i∈s.of name,i<s.rules.length) (hus:∀x∈us,x.1<s.rules.length) (P:Nat) (hP:P≤8388608) (hUP:∀y∈U,y.length≤P) {t:Wst} (hw:WInv U C t) (h:OvI s fs us none t) (hl:t.over.length≤100) {x:Nod} (hx:x∈t.over):NdB x:=by
 obtain⟨q1,q2⟩:=over_needs hu h hl hx;have hxn:=hUP _ (over_name hw h hx)
 have hnd:∀n∈x.needs,n.length≤P:=fun n hn=>by
  obtain⟨y,a,b⟩:=q2 n hn;rw[←b];exact hUP _ (over_name hw h a)
 obtain⟨p1,p2⟩:=nodeF_parts (fs:=fs) (us:=us) (fun cs=>cs.length≤k∧∀c∈cs,c.1.length≤1073741824) ⟨Nat.zero_le _,fun c hc=>(by cases hc)⟩ (fun i hi=>⟨hok.cl _ (rlOf_mem hi),(hok.rs _ (rlOf_mem hi)).cw⟩) hol hus x.name;rw[←(h.ovn x hx).1] at p1 p2
 have hz:(Lib.join x.needs [32]).length≤100+100*P:=by
  have hll:=lens_le P x.needs hnd;have hmul:=Nat.mul_le_mul_right P q1;cases hn:x.needs with
  |nil=>rw[Lib.join_nil];exact Nat.zero_le _
  |cons y r=>
   rw[hn] at q1 hll hmul;rw[Lib.join_length];simp only[List.length_cons,List.length_nil] at q1⊢;omega
 refine⟨by omega,p1.2,by omega,by omega,?_,by omega,by omega⟩;cases hn:x.needs with
 |nil=>exact Nat.zero_le _
 |cons y r=>
  have:=hnd y (by rw[hn];exact List.mem_cons_self ..);simp only[List.headD_cons];omega
end
theorem strsW_le (P:Nat) (xs:List Pl.Bs) (h:∀x∈xs,x.length≤P):(strsW xs).length≤xs.length*(P+2):=by
 induction xs with
 |nil=>simp[strsW]
 |cons x r ih=>
  have ih' :=ih (fun y hy=>h y (List.mem_cons_of_mem _ hy));have h1:=h x (List.mem_cons_self ..);unfold strsW at*;rw[List.flatMap_cons,List.length_append,List.length_cons,Nat.succ_mul];simp[beB_len x.length 2 (Nat.le_refl 2)] at*;omega
theorem give_size {N:Pl.Bs→Cp.Nv} {sg:UInt8→Option Pl.Bs}:∀(cs:List (Pl.Bs×Nat)) (k:Nat) (acc:List Pl.Bs) (k' :Nat) (out:List Pl.Bs),GiveR N sg cs k acc (.inr (k',out))→acc.length≤k→acc.length≤500→(∀c∈acc,c.length≤2000)→out.length≤500∧∀c∈out,c.length≤2000
 |[],k,acc,k',out,h,_,h2,h3=>by
  have e:(Sum.inr (k',out):(Nat×Nat)⊕(Nat×List Pl.Bs))= .inr (k,acc):=h;cases e;exact⟨h2,h3⟩
 |c::rest,k,acc,k',out,⟨r,h1,h⟩,q1,q2,q3=>by
  split at h
  ·cases h
  ·split at h
   ·exact give_size rest k acc k' out h q1 q2 q3
   ·split at h
    ·refine give_size rest (k+1) _ k' out h ?_ ?_ (fun d hd=> ?_)
     ·rw[List.length_append,List.length_cons,List.length_nil];omega
     ·rw[List.length_append,List.length_cons,List.length_nil];omega
     ·rcases List.mem_append.1 hd with e|e
      ·exact q3 d e
      ·rw[List.mem_singleton] at e
       rw[e];obtain⟨f,hf⟩:=h1;exact expF_len f _ _ _ _ _ hf
    ·exact give_size rest (k+1) acc k' out h (by omega) q2 q3
structure StB (P:Nat) (x:Stp):Prop where
 name:x.name.length≤P
 needs:x.needs.length≤100
 nw:∀n∈x.needs,n.length≤P
 cmds:x.cmds.length≤500
 cw:∀c∈x.cmds,c.length≤2000
theorem steps_size {N:Pl.Bs→Cp.Nv} {P:Nat}:∀(nodes:List Nod) (k:Nat) (acc:List Stp) (k' :Nat) (ss:List Stp),StepsR N nodes k acc (.inr (k',ss))→(∀x∈nodes,x.name.length≤P∧x.needs.length≤100∧∀n∈x.needs,n.length≤P)→(∀x∈acc,StB P x)→ss.length=acc.length+nodes.length∧∀x∈ss,StB P x
 |[],k,acc,k',ss,h,_,h2=>by
  have e:(Sum.inr (k',ss):(Nat×Nat)⊕(Nat×List Stp))= .inr (k,acc):=h;cases e;exact⟨rfl,h2⟩
 |x::rest,k,acc,k',ss,⟨G,h1,h⟩,hn,h2=>by
  cases G with
  |inl e=>cases h
  |inr p=>
   obtain⟨k1,cs⟩:=p;obtain⟨a1,a2⟩:=give_size _ _ _ _ _ h1 (Nat.zero_le _) (Nat.zero_le _) (fun c hc=>(by cases hc));obtain⟨b1,b2,b3⟩:=hn x (List.mem_cons_self ..)
   obtain⟨e1,e2⟩:=steps_size rest k1 _ k' ss h (fun y hy=>hn y (List.mem_cons_of_mem _ hy)) (fun y hy=>by
    rcases List.mem_append.1 hy with e|e
    ·exact h2 y e
    ·rw[List.mem_singleton] at e
     rw[e];exact⟨b1,b2,b3,a1,a2⟩)
   refine⟨?_,e2⟩;rw[e1,List.length_append,List.length_cons,List.length_cons,List.length_nil];omega
theorem szs_le {P:Nat}:∀ss:List Stp,(∀x∈ss,StB P x)→szs ss≤ss.length*(P+100*(P+2)+1001002)
 |[],_=>by simp[szs]
 |x::r,h=>by
  have ih:=szs_le r (fun y hy=>h y (List.mem_cons_of_mem _ hy));have hx:=h x (List.mem_cons_self ..);have a1:=strsW_le P x.needs hx.nw;have a2:=strsW_le 2000 x.cmds hx.cw;have a3:=Nat.mul_le_mul_right (P+2) hx.needs;have a4:=Nat.mul_le_mul_right (2000+2) hx.cmds;have a5:=hx.name;have e:szs (x::r)=x.sz+szs r:=by simp[szs]
  rw[e,List.length_cons,Nat.succ_mul];unfold Stp.sz;omega
section
variable {s:St} {fs:List Pl.File} {us:List (Nat×List Pl.Bs)}
theorem enter_ne {t:Wst} {name:Pl.Bs} (h:t.opn≠[]∨t.over≠[]):(enterF s fs us t name).2.opn≠[]∨(enterF s fs us t name).2.over≠[]:=by
 unfold enterF;split
 ·exact h
 ·split
  ·exact h
  ·split
   ·exact h
   ·exact .inl (by simp)
theorem goOn_ne {t:Wst} {x:Nod×Nat} (hl:t.opn.getLast?=some x):(goOnF s fs us t).2.opn≠[]∨(goOnF s fs us t).2.over≠[]:=by
 unfold goOnF;rw[hl];simp only;split
 ·unfold leaveF
  rw[hl];refine .inr ?_;simp only;split
  ·simp
  ·rename_i q
   exact fun e=>q (by rw[e];exact Nat.zero_le _)
 ·exact enter_ne (.inl (by simp))
theorem over_ne {g:Pl.Bs} {r:Nat×Wst} (h:FromR s fs us (enterF s fs us wst0 g) r) (h0:r.1=0):0<r.2.over.length:=by
 have hn:=(walk_ov h h0).2;obtain⟨n,hf⟩:=h
 have:=fromF_keep (fun t=>t.opn≠[]∨t.over≠[]) (fun t x _ hl _=>goOn_ne hl) n _ r hf (fun e=>by
  unfold enterF at e⊢;have z2:¬flagOf wst0.sts g=2:=fun q=>(by cases q)
  have z1:¬flagOf wst0.sts g=1:=fun q=>(by cases q)
  rw[if_neg z2,if_neg z1] at e⊢;split at e
  ·cases e
  ·rename_i q
   rw[if_neg q]
   exact .inl (by simp)) h0
 rcases this with q|q
 ·exact absurd hn q
 ·exact List.length_pos_iff.2 q
end
def StepsT (ss:(Nat×Nat)⊕(Nat×List Stp)) (r:Pl.Bs×Nat×Nat):Prop:=match ss with
 | .inl (er,ln)=>r=([],er,ln)
 | .inr (k,ss)=>(500<k∧r=([],5,0))∨(k≤500∧r=match planW ss with
  |none=>([],5,0)
  |some p=>(p,0,0))
def OrderT (s:St) (fs:List Pl.File) (g:Pl.Bs) (r:Pl.Bs×Nat×Nat):Prop:=
 (g=[]∧r=([],8,0))∨(g≠[]∧2000<g.length∧r=([],5,0))∨
  (g≠[]∧g.length≤2000∧∃q,FromR s fs (usL s fs s.pats) (enterF s fs (usL s fs s.pats) wst0 g) q∧
   ((q.1≠0∧r=([],q.1,0))∨(q.1=0∧100<q.2.over.length∧r=([],5,0))∨
     (q.1=0∧q.2.over.length≤100∧∃R,StepsR (nOf s.names) q.2.over 0 [] R∧StepsT R r)))
def TextR (fs:List Pl.File) (path goal:Pl.Bs) (r:Pl.Bs×Nat×Nat):Prop:=
 ((bookF fs path).1≠0∧r=([],(bookF fs path).1,(bookF fs path).2.1))∨
   ((bookF fs path).1=0∧OrderT (bookF fs path).2.2 fs (goalF (bookF fs path).2.2 goal) r)
theorem write_behind {W:World} {L P:Nat} {sv:Value} {ss:List Stp} {c:List Value} (h:W.ownsRow L 206 6 sv ss.length c) (hs:StC W L ss c) (hLW:L≤W.heap.size) (hb:∀x∈ss,StB P x) (hP:P≤80000) (h0:0<ss.length) (hl:ss.length≤100):
 Calls Tryz.prog 67 #[sv] W fun e W' =>e= .returned (textV (planW ss))∧Below W.heap.size W W' :=by
 have hz:=szs_le ss hb;have hm:=Nat.mul_le_mul_right (P+100*(P+2)+1001002) hl
 rcases h.2 with⟨_,h2⟩|⟨g,cap,cur,h1,_,h3,-⟩
 ·omega
 ·have h' :=h
  rw[h1] at h';rw[h1];refine write_any ss (some ⟨g,0,none⟩) cap g 0 W (fun _=>rfl) (heap_lt h3) (fun i hi=> ?_) h0 (by omega) (fun x hx=>⟨Nat.le_trans (hb x hx).needs (by decide),Nat.le_trans (hb x hx).cmds (by decide)⟩) (by omega);obtain⟨a,q1,q2⟩:=StC.at ss c hs i hi;obtain⟨an,ac,am,cn,cc,nb,no,cb,co,nm,cm,rfl,p2,p3⟩:=q1
  refine⟨an,ac,am,cn,cc,nb,no,cb,co,nm,cm,fun j u hj=> ?_,fun q=> ?_,fun q=> ?_⟩
  ·have hj6:j<6:=by
    rcases Nat.lt_or_ge j 6 with q|q
    ·exact q
    ·rw[List.getElem?_eq_none (by show 6≤j;exact q)] at hj;cases hj
   rw[Nat.zero_add];exact own_cell2 h' (i*6+j) u ((q2 j hj6).trans hj)
  ·obtain⟨e1,e2,e3⟩:=p2 q
   exact⟨e1,Nat.lt_of_lt_of_le e2 hLW,e3⟩
  ·obtain⟨e1,e2,_,e4⟩:=p3 q
   exact⟨e1,e2,e4⟩
def TextP (fs:List Pl.File) (path goal:Pl.Bs) (W:World) (e:Ending) (W' :World):Prop:=
 ∃r,TextR fs path goal r∧e= .returned (.tuple #[.string ⟨r.1.toArray⟩,.int .i64 (r.2.1:Int),.int .i64 (r.2.2:Int)])∧Below W.heap.size W W'
theorem book_ok {M:Nat} {fs:List Pl.File} (hf:∀p g,Pl.look fs p=some g→g.text.length+1≤M∧g.text.length≤1073741824) (path:Pl.Bs):∃k,Ok (bookF fs path).2.2 k∧k≤101*M:=by
 unfold bookF;split
 ·exact⟨0,ok0,Nat.zero_le _⟩
 ·rename_i g hg
  obtain⟨⟨k,o1,o2⟩,-,-⟩:=readF_ok hf 3 st0 0 g.text ok0 (hf path g hg).1 (hf path g hg).2;refine⟨k,o1,?_⟩;have e:st0.inc=0:=rfl;rw[e] at o2;omega
theorem text_unread (fs0:List Pl.File) (path goal:Pl.Bs) (a:Option Addr) (cap b o M:Nat) (W:World) (ha:0<fs0.length→a=some ⟨b,o,none⟩) (hr:RdF W b o fs0) (hbw:b<W.heap.size) (hfl:fs0.length≤8388608) (hg:Glob W)
 (hf:∀p g,Pl.look (fs0.foldl Pl.addF []) p=some g→g.text.length+1≤M∧g.text.length≤1073741824) (hM:101*M≤4294967296) (hne:(bookF (fs0.foldl Pl.addF []) path).1≠0):
 Calls Tryz.prog 40 #[.slice a fs0.length cap,.string ⟨path.toArray⟩,.string ⟨goal.toArray⟩] W fun e W' =>TextP (fs0.foldl Pl.addF []) path goal W e W' :=by
 have C1:=hide (worldNew_any fs0 [] a none cap b o 0 W.heap.size b 0 0 W ha hr hbw hfl (fun q=>(by cases q)) ⟨hbw,fun i h=>(by cases h)⟩ (Nat.le_refl _) (by decide));rw[List.length_nil] at C1
 have C2:Hid (∀w1 bx bf bi,PW w1 bx bf bi (.slice none 0 0) [] (fs0.foldl Pl.addF []) 0→Below W.heap.size W w1→Calls Tryz.prog 64 #[.pointer (some ⟨bx,0,none⟩),.string ⟨path.toArray⟩] w1 fun e W' =>e= .returned (.tuple #[.pointer none,.int .i64 ((bookF (fs0.foldl Pl.addF []) path).1:Int),.int .i64 ((bookF (fs0.foldl Pl.addF []) path).2.1:Int)])∧Below W.heap.size W W'):=fun w1 bx bf bi hp hb=>by
  refine(rulesRead_any bx path w1 hp (hg.later hb) hf hM).mono ?_
  rintro e w2 ⟨q1,q2,-⟩
  exact⟨q2 hne,hb.trans (q1.mono hb.size)⟩
 have HT:Hid (TextR (fs0.foldl Pl.addF []) path goal ([],(bookF (fs0.foldl Pl.addF []) path).1,(bookF (fs0.foldl Pl.addF []) path).2.1)):= .inl ⟨hne,rfl⟩;have hn1:(((bookF (fs0.foldl Pl.addF []) path).1:Int) !=0)=true:=by rw[bne_iff_ne];omega
 clear ha hr hg hf hne;generalize (bookF (fs0.foldl Pl.addF []) path).1=er at*;generalize (bookF (fs0.foldl Pl.addF []) path).2.1=ln at*;generalize fs0.foldl Pl.addF []=fs at*
 go_enter Tryz.func40,Tryz.ntmps40
 go_wp2_with (first
  |(go_at_call 61;refine(uh C1).mono ?_;clear C1;rintro e w1 ⟨bx,bf,bi,rfl,hp,hb,-,-,-⟩;have C3:=hide (uh C2 w1 bx bf bi hp hb);clear hp hb C2)
  |(go_at_call 64;refine(uh C3).mono ?_;clear C3;rintro e w2 ⟨rfl,hb2⟩;have HB:=hide hb2;clear hb2)
  |fail)
 go_ret3
 exact⟨_,uh HT,rfl,uh HB⟩
theorem give_er {N:Pl.Bs→Cp.Nv} {sg:UInt8→Option Pl.Bs}:∀(cs:List (Pl.Bs×Nat)) (k:Nat) (acc:List Pl.Bs) (er ln:Nat),GiveR N sg cs k acc (.inl (er,ln))→er≠0
 |[],_,_,_,_,h=>by
  exact absurd h (fun q=>by unfold GiveR at q;cases q)
 |c::rest,k,acc,er,ln,⟨r,_,h⟩=>by
  split at h
  ·rename_i q
   cases h;exact q
  ·split at h
   ·exact give_er rest k acc er ln h
   ·exact give_er rest _ _ er ln h
theorem steps_er {N:Pl.Bs→Cp.Nv}:∀(nodes:List Nod) (k:Nat) (acc:List Stp) (er ln:Nat),StepsR N nodes k acc (.inl (er,ln))→er≠0
 |[],_,_,_,_,h=>by
  exact absurd h (fun q=>by unfold StepsR at q;cases q)
 |x::rest,k,acc,er,ln,⟨G,h1,h⟩=>by
  cases G with
  |inl e=>
   have e2:(Sum.inl (er,ln):(Nat×Nat)⊕(Nat×List Stp))= .inl e:=h;cases e2;exact give_er _ _ _ _ _ h1
  |inr p=>exact steps_er rest _ _ er ln h
def StepsQ (N:Pl.Bs→Cp.Nv) (nodes:List Nod) (W:World) (e:Ending) (W' :World):Prop:=
 ∃(sv:Value) (er ln:Nat),e= .returned (.tuple #[sv,.int .i64 (er:Int),.int .i64 (ln:Int)])∧Below W.heap.size W W' ∧∃R,StepsR N nodes 0 [] R∧
  ((er≠0∧StepsT R ([],er,ln))∨(er=0∧∃po:Option Pl.Bs,StepsT R (match po with
    |none=>([],5,0)
    |some p=>(p,0,0))∧Calls Tryz.prog 67 #[sv] W' fun e W2=>e= .returned (textV po)∧Below W'.heap.size W' W2))
theorem steps_text {W:World} {L nm P:Nat} {vv:Value} {qv:List Vq} {NM:NL} (h:W.ownsRow L 197 5 vv qv.length (qv.flatMap vnC)) (hv:∀q∈qv,VqT W q) (hN:SMap W nm (nEnts NM)) (hSh:Short NM) (hg:Glob W) (h0:0<qv.length) (hl:qv.length≤100) (hB:∀x∈qv.map Vq.nd,NdB x) (hP:P≤80000) (hs:∀x∈qv.map Vq.nd,x.name.length≤P∧x.needs.length≤100∧∀n∈x.needs,n.length≤P):
 Calls Tryz.prog 66 #[vv,.map (some nm)] W fun e W' =>StepsQ (nOf NM) (qv.map Vq.nd) W e W' :=by
 rcases h.2 with⟨_,h2⟩|⟨g,cap,cur,h1,_,h3,-⟩
 ·omega
 ·rw[h1] at h⊢
  have hc:=stepsOf_any (qv.map Vq.nd) (some ⟨g,0,none⟩) cap g 0 nm NM W (fun _=>rfl) (heap_lt h3) (fun i hi=>nodes_ndr h hv i hi) hN hSh hg (by rw[List.length_map];omega) hB;rw[List.length_map] at hc;refine hc.mono ?_
  rintro e w2 ⟨R,q1,q2,q3⟩
  match R,q1,q3 with
  | .inl (er,ln),q1,q3=>exact⟨_,er,ln,q3,q2,_,q1,.inl ⟨steps_er _ _ _ _ _ q1,rfl⟩⟩
  | .inr (k,ss),q1,q3=>
   obtain⟨z1,z2⟩:=steps_size (P:=P) _ _ _ _ _ q1 hs (fun x hx=>(by cases hx));rw[List.length_nil,List.length_map,Nat.zero_add] at z1
   rcases q3 with⟨a1,a2⟩|⟨a1,sv,c,a2,a3,a4⟩
   ·exact⟨_,5,0,a2,q2,_,q1,.inl ⟨by decide,.inl ⟨a1,rfl⟩⟩⟩
   ·exact⟨sv,0,0,a2,q2,_,q1,.inr ⟨rfl,planW ss,.inr ⟨a1,rfl⟩,write_behind a3 a4 q2.size z2 hP (by omega) (by omega)⟩⟩
end Go.Proofs.YtjelacjggijmfaaGreatDoor
