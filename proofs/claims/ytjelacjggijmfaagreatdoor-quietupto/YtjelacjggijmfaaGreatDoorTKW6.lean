/-
  The law's own: the same result twice.
-/
import Derived.Test.YtjelacjggijmfaaGreatDoorTWB6
import Derived.Test.YtjelacjggijmfaaGreatDoorTWP3
import Derived.Deep.Cut
set_option maxHeartbeats 2000000
set_option maxRecDepth 20000
namespace Go.Proofs.YtjelacjggijmfaaGreatDoor
open Go.RowKit
def atI (l:List Pl.Bs) (c:Pl.Bs):Int:=match l.findIdx? (fun x=>x==c) with
 |some i=>(i:Int)
 |none=> -1
theorem atI_not {l:List Pl.Bs} {c:Pl.Bs} (h:c∉l):atI l c= -1:=by
 unfold atI
 have:l.findIdx? (fun x=>x==c)=none:=by
  rw[List.findIdx?_eq_none_iff];intro x hx;rw[beq_eq_false_iff_ne];exact fun e=>h (e▸hx)
 rw[this]
theorem atI_here {l:List Pl.Bs} {c:Pl.Bs} (h:c∉l):atI (l++[c]) c=(l.length:Int):=by
 unfold atI
 have:l.findIdx? (fun x=>x==c)=none:=by
  rw[List.findIdx?_eq_none_iff];intro x hx;rw[beq_eq_false_iff_ne];exact fun e=>h (e▸hx)
 rw[List.findIdx?_append,this];simp[List.findIdx?_cons]
theorem atI_other {l:List Pl.Bs} {c x:Pl.Bs} (h:x≠c):atI (l++[x]) c=atI l c:=by
 unfold atI;rw[List.findIdx?_append]
 have:[x].findIdx? (fun y=>y==c)=none:=by
  rw[List.findIdx?_eq_none_iff];intro y hy;rw[List.mem_singleton.1 hy,beq_eq_false_iff_ne];exact h
 rw[this];cases l.findIdx? (fun x=>x==c)<;>rfl
theorem at_any (l:List Pl.Bs) (c:Pl.Bs) (a:Option Addr) (cap b o:Nat) (w:World) (ha:0<l.length→a=some ⟨b,o,none⟩) (hr:RdS w b o l) (hl:l.length≤1048576) (hd:l.Nodup):
 Calls Tryz.prog 38 #[.slice a l.length cap,.string ⟨c.toArray⟩] w fun e w' =>e= .returned (.int .i64 (atI l c))∧w' =w:=by
 have HA:=hide ha;have HR:=hide hr
 have HD:Hid (∀i (h:i<l.length),l[i]∉l.take i):=hide fun i h q=>by
  obtain⟨j,hj,e⟩:=List.getElem_of_mem q;rw[List.length_take] at hj;rw[List.getElem_take] at e;have:=(List.getElem_inj hd (i:=j) (j:=i)).1 e;omega
 clear ha hr hd
 go_enter Tryz.func38,Tryz.ntmps38
 go_wp2_with fail
 go_loopw [5,6] (fun kv iv wr=>∃i:Nat,iv= .int .i64 i∧i≤l.length∧kv= .int .i64 (atI (l.take i) c)∧wr=w) (fun _ iv _=>l.length-intN iv)
 case atStart=>exact⟨0,rfl,Nat.zero_le _,rfl,rfl⟩
 case round=>
  obtain⟨i,rfl,hi,rfl,hw⟩:=hrel;have hw:=hw.symm;subst hw
  by_cases hk:i<l.length
  ·obtain rfl:=uh HA (by omega)
   have c0:=uh HR i hk;have hnx:=uh HD i hk;have htk:l.take (i+1)=l.take i++[l[i]]:=List.take_succ_eq_append_getElem hk;have hlt:(l.take i).length=i:=by rw[List.length_take];omega
   unfold strV at c0
   by_cases he:l[i]=c
   ·have HX:Hid (atI (l.take (i+1)) c=(i:Int)):=hide (by rw[htk,he,atI_here (he▸hnx),hlt])
    have e1:atI (l.take i) c= -1:=atI_not (he▸hnx);have t:(l[i]==c)=true:=by simpa using he
    rw[e1];clear he e1 htk hnx hlt
    go_wp2_with fail
    go_roundw
    case rel=>exact⟨i+1,by go_num,by omega,by rw[uh HX],trivial⟩
    case measure=>simp only[intN];omega
   ·have HX:Hid (atI (l.take (i+1)) c=atI (l.take i) c):=hide (by rw[htk,atI_other he])
    have t:(l[i]==c)=false:=by simpa using he
    clear he htk hnx hlt
    go_wp2_with fail
    go_roundw
    case rel=>exact⟨i+1,by go_num,by omega,by rw[uh HX],trivial⟩
    case measure=>simp only[intN];omega
  ·have HE:Hid (l.take i=l):=hide (List.take_of_length_le (by omega))
   rw[uh HE]
   go_wp2_with fail
   go_ret
   exact⟨rfl,rfl⟩
def stl (J:Nat→List Nat) (T:Nat→Int):Nat→Nat→Bool
 |0,_=>false
 |f+1,i=>decide (T i<0)||(J i).any fun j=>stl J T f j||decide (T i<T j)
theorem any_same {p q:Nat→Bool}:∀l:List Nat,(∀j∈l,p j=q j)→l.any p=l.any q
 |[],_=>rfl
 |x::r,h=>by rw[List.any_cons,List.any_cons,h x (List.mem_cons_self ..),any_same r fun y hy=>h y (List.mem_cons_of_mem _ hy)]
theorem stl_fuel {J:Nat→List Nat} {m:Nat} (h:WbOk J m) (T:Nat→Int):∀(f g i:Nat),i<m→m-i≤f→m-i≤g→stl J T f i=stl J T g i
 |0,_,i,hi,hf,_=>by omega
 |_+1,0,i,hi,_,hg=>by omega
 |f+1,g+1,i,hi,hf,hg=>by
  rw[stl,stl]
  congr 1
  refine any_same _ fun j hj=> ?_
  have:=h.lt i hi j hj;rw[stl_fuel h T f g j this.2 (by omega) (by omega)]
theorem stl_is {J:Nat→List Nat} {m:Nat} (h:WbOk J m) (T:Nat→Int):WebSt J m T (stl J T m):=fun i hi=>by
 obtain⟨n,rfl⟩:∃n,m=n+1:=⟨m-1,by omega⟩;rw[stl]
 congr 1
 refine any_same _ fun j hj=> ?_
 have:=h.lt i hi j hj;rw[stl_fuel h T n (n+1) j this.2 (by omega) (by omega)]
def filesW (N T:List Int):List Pl.File:=⟨[82],webT (JW N) (manyW N),0⟩::((List.range (manyW N)).filter fun i=>decide (0≤timeW T i)).map fun i=>⟨Mk.nmB i,[],timeW T i⟩
theorem adds_id:∀(fs acc:List Pl.File),((acc++fs).map (·.path)).Nodup→fs.foldl Pl.addF acc=acc++fs
 |[],acc,_=>by simp
 |f::r,acc,h=>by
  have hf:(Pl.look acc f.path).isSome=false:=by
   cases hl:Pl.look acc f.path with
   |none=>rfl
   |some g=>
    have hm:g.path=f.path:=by
     unfold Pl.look at hl
     simpa using List.find?_some hl
    have hg:g∈acc:=by unfold Pl.look at hl;exact List.mem_of_find?_eq_some hl
    rw[List.map_append,List.nodup_append] at h;exact absurd hm (h.2.2 _ (List.mem_map.2 ⟨g,hg,rfl⟩) _ (List.mem_map.2 ⟨f,List.mem_cons_self ..,rfl⟩))
  rw[List.foldl_cons];have e:Pl.addF acc f=acc++[f]:=by unfold Pl.addF;rw[hf];rfl
  rw[e,adds_id r (acc++[f]) (by rw[List.append_assoc];exact h),List.append_assoc];rfl
theorem filesW_uniq (N T:List Int):((filesW N T).map (·.path)).Nodup:=by
 unfold filesW;rw[List.map_cons,List.nodup_cons,List.map_map]
 constructor
 ·intro h
  obtain⟨i,-,e⟩:=List.mem_map.1 h;have:=congrArg List.length e;cases this
 ·exact nms_nodup _ (List.nodup_range.sublist List.filter_sublist) fun j hj=>Nat.lt_of_lt_of_le (List.mem_range.1 (List.mem_filter.1 hj).1) (many_le N).2
theorem filesW_adds (N T:List Int):(filesW N T).foldl Pl.addF []=filesW N T:=adds_id _ _ (by rw[List.nil_append];exact filesW_uniq N T)
theorem filesW_rules (N T:List Int):Pl.look (filesW N T) [82]=some ⟨[82],webT (JW N) (manyW N),0⟩:=rfl
theorem look_inW {fs:List Pl.File} (hu:(fs.map (·.path)).Nodup) {f:Pl.File} (hf:f∈fs):Pl.look fs f.path=some f:=by
 induction fs with
 |nil=>cases hf
 |cons g r ih=>
  rw[List.map_cons,List.nodup_cons] at hu;unfold Pl.look
  rcases List.mem_cons.1 hf with e|e
  ·rw[←e,List.find?_cons_of_pos (by simp)]
  ·have hne:¬(g.path==f.path)=true:=by
    rw[beq_iff_eq];exact fun q=>hu.1 (by rw[q];exact List.mem_map.2 ⟨f,e,rfl⟩)
   rw[List.find?_cons_of_neg (by simpa using hne)];exact ih hu.2 e
theorem filesW_web (N T:List Int):WebW (manyW N) (timeW T) (filesW N T):=fun i hi=>by
 by_cases h:0≤timeW T i
 ·refine .inr ⟨⟨Mk.nmB i,[],timeW T i⟩,?_,rfl,h⟩
  exact look_inW (filesW_uniq N T) (f:=⟨Mk.nmB i,[],timeW T i⟩) (List.mem_cons_of_mem _ (List.mem_map.2 ⟨i,List.mem_filter.2 ⟨List.mem_range.2 hi,decide_eq_true h⟩,rfl⟩))
 ·refine .inl ⟨?_,by omega⟩
  rw[Pl.look_none];intro q;unfold filesW at q;rw[List.map_cons] at q
  rcases List.mem_cons.1 q with e|e
  ·have:=congrArg List.length e
   cases this
  ·rw[List.map_map] at e
   obtain⟨j,hj,e⟩:=List.mem_map.1 e;obtain⟨h1,h2⟩:=List.mem_filter.1 hj;have:=Mk.nmB_inj (Nat.lt_of_lt_of_le (List.mem_range.1 h1) (many_le N).2) (Nat.lt_of_lt_of_le hi (many_le N).2) e;rw[this] at h2;exact h (of_decide_eq_true h2)
def madeB:Pl.Bs:=[109,97,100,101]
def doesW (N:List Int) (ex:Nat→Int):List Pl.Eff:=(List.range (manyW N)).map fun i=>⟨wNm i,[⟨Mk.nmB i,madeB,0⟩],ex i⟩
theorem wNm_inj {k j:Nat} (hk:k<12) (hj:j<12) (h:wNm k=wNm j):k=j:=by
 unfold wNm at h;exact Mk.nmB_inj hk hj (List.append_cancel_left h)
theorem find_node (F:Nat→Pl.Eff) (hF:∀i,(F i).cmd=wNm i):∀(l:List Nat) (i:Nat),i∈l→(∀j∈l,j<12)→(l.map F).find? (fun e=>e.cmd==wNm i)=some (F i)
 |[],_,h,_=>by cases h
 |x::r,i,h,hl=>by
  rw[List.map_cons]
  by_cases e:x=i
  ·rw[e,List.find?_cons_of_pos (by simp[hF])]
  ·have hi:i<12:=hl i h
   rw[List.find?_cons_of_neg (by
    rw[hF,beq_iff_eq]
    exact fun q=>e (wNm_inj (hl x (List.mem_cons_self ..)) hi q))]
   exact find_node F hF r i ((List.mem_cons.1 h).resolve_left fun q=>e q.symm) fun j hj=>hl j (List.mem_cons_of_mem _ hj)
theorem doesW_web (N:List Int) (ex:Nat→Int):WebE (manyW N) (doesW N ex) madeB ex:=fun i hi=>
 ⟨⟨wNm i,[⟨Mk.nmB i,madeB,0⟩],ex i⟩,0,find_node (fun i=>⟨wNm i,[⟨Mk.nmB i,madeB,0⟩],ex i⟩) (fun _=>rfl) _ i (List.mem_range.2 hi) (fun _ hj=>Nat.lt_of_lt_of_le (List.mem_range.1 hj) (many_le N).2),rfl,rfl⟩
def tmF (fs:List Pl.File) (i:Nat):Int:=match Pl.look fs (Mk.nmB i) with
 |some f=>f.time
 |none=> -1
theorem mkF_look (tx:Pl.Bs):∀(l:List Nat) (k:Int) (fs:List Pl.File) (q:Pl.Bs),(∀j∈l,Mk.nmB j≠q)→Pl.look (mkF tx l k fs) q=Pl.look fs q
 |[],_,_,_,_=>rfl
 |i::r,k,fs,q,h=>by
  rw[mkF,mkF_look tx r _ _ q (fun j hj=>h j (List.mem_cons_of_mem _ hj)),Pl.look_put,if_neg (h i (List.mem_cons_self ..))]
theorem mkF_not (tx:Pl.Bs) {l:List Nat} (k:Int) (fs:List Pl.File) (hl:∀j∈l,j<12) {i:Nat} (hi:i<12) (h:i∉l):Pl.look (mkF tx l k fs) (Mk.nmB i)=Pl.look fs (Mk.nmB i):=
 mkF_look tx l k fs _ fun j hj e=>h ((Mk.nmB_inj (hl j hj) hi e)▸hj)
theorem mkF_at (tx:Pl.Bs):∀(l:List Nat) (k:Int) (fs:List Pl.File),l.Nodup→(∀j∈l,j<12)→∀a (h:a<l.length),Pl.look (mkF tx l k fs) (Mk.nmB l[a])=some ⟨Mk.nmB l[a],tx,k+1+a⟩
 |i::r,k,fs,hn,hl,0,_=>by
  simp only[List.getElem_cons_zero];rw[mkF,mkF_not tx _ _ (fun j hj=>hl j (List.mem_cons_of_mem _ hj)) (hl i (List.mem_cons_self ..)) (List.nodup_cons.1 hn).1,Pl.look_put,if_pos rfl];simp
 |i::r,k,fs,hn,hl,a+1,h=>by
  simp only[List.getElem_cons_succ];rw[mkF,mkF_at tx r (k+1) _ (List.nodup_cons.1 hn).2 (fun j hj=>hl j (List.mem_cons_of_mem _ hj)) a (by simpa using h)];have:k+1+1+(a:Int)=k+1+((a+1:Nat):Int):=by omega
  rw[this]
theorem mkF_uniq (tx:Pl.Bs):∀(l:List Nat) (k:Int) (fs:List Pl.File),Pl.Uniq fs→Pl.Uniq (mkF tx l k fs)
 |[],_,_,h=>h
 |_::r,k,_,h=>mkF_uniq tx r (k+1) _ (Pl.uniq_put h)
theorem put_sum (fs:List Pl.File) (f:Pl.File):sumF (Pl.putF fs f)≤sumF fs+(f.path.length+f.text.length+1):=by
 induction fs with
 |nil=>simp[Pl.putF,sumF]
 |cons g r ih=>
  unfold Pl.putF;split
  ·rw[sumF,sumF];omega
  ·rw[sumF,sumF];omega
theorem mkF_sum:∀(l:List Nat) (k:Int) (fs:List Pl.File),sumF (mkF madeB l k fs)≤sumF fs+7*l.length
 |[],_,_=>Nat.le_refl _
 |i::r,k,fs=>by
  have h1:=mkF_sum r (k+1) (Pl.putF fs ⟨Mk.nmB i,madeB,k+1⟩);have h2:=put_sum fs ⟨Mk.nmB i,madeB,k+1⟩;rw[mkF,List.length_cons];have h3:(Mk.nmB i).length=2:=rfl;have h4:madeB.length=4:=rfl;simp only[h3,h4] at h2;omega
theorem sumF_perm {a b:List Pl.File} (h:a.Perm b):sumF a=sumF b:=by
 induction h with
 |nil=>rfl
 |cons x _ ih=>rw[sumF,sumF,ih]
 |swap x y l=>rw[sumF,sumF,sumF,sumF];omega
 |trans _ _ h1 h2=>rw[h1,h2]
theorem uniq_sort {fs:List Pl.File} (h:Pl.Uniq fs):Pl.Uniq (Pl.sortF fs):=(((sortF_perm fs).map (fun f:Pl.File=>f.path)).nodup_iff).2 h
theorem look_sort {fs:List Pl.File} (h:Pl.Uniq fs) (q:Pl.Bs):Pl.look (Pl.sortF fs) q=Pl.look fs q:=by
 cases hl:Pl.look fs q with
 |none=>
  rw[Pl.look_none] at hl⊢;exact fun e=>hl ((((sortF_perm fs).map (fun f:Pl.File=>f.path)).mem_iff).1 e)
 |some f=>
  have hm:f.path=q:=by
   unfold Pl.look at hl
   simpa using List.find?_some hl
  have hf:f∈fs:=List.mem_of_find?_eq_some hl;rw[←hm];exact look_inW (uniq_sort h) ((sortF_perm fs).mem_iff.2 hf)
theorem sort_idem {fs:List Pl.File} (h:Pl.Uniq fs):Pl.sortF (Pl.sortF fs)=Pl.sortF fs:=by
 refine List.Perm.eq_of_pairwise (le:=fun a b=>a.path≤b.path) (fun a b ha hb h1 h2=> ?_) (sortF_sorted _) (sortF_sorted _) (sortF_perm _);have e:a.path=b.path:=bs_anti h1 h2;have l1:=look_inW (uniq_sort h) ((sortF_perm _).mem_iff.1 ha);have l2:=look_inW (uniq_sort h) hb;rw[e,l2] at l1;cases l1;rfl
theorem ah_pair {J:Nat→List Nat} {ov:List Nat} (nd:ov.Nodup) (ah:∀a (h:a<ov.length),∀j∈J ov[a],∃b,∃hb:b<a,(ov[b]'(by omega))=j):ov.Pairwise (fun x y=>y∉J x):=by
 rw[List.pairwise_iff_getElem];intro i j hi hj hij hm;obtain⟨b,hb,e⟩:=ah i hi _ hm;have:=(List.getElem_inj nd).1 e;omega
theorem idx_before {J:Nat→List Nat} {l:List Nat} (hp:l.Pairwise (fun x y=>y∉J x)) {a b:Nat} (ha:a<l.length) (hb:b<l.length) (hj:l[b]∈J l[a]) (hne:l[b]≠l[a]):b<a:=by
 rcases Nat.lt_trichotomy b a with h|h|h
 ·exact h
 ·subst h;exact absurd rfl hne
 ·exact absurd hj ((List.pairwise_iff_getElem.1 hp) a b ha hb h)
theorem fresh {J:Nat→List Nat} {m:Nat} (h:WbOk J m) {T T' :Nat→Int} {ov:List Nat} {ck:Int} (h0:0≤ck) (hm:∀i∈ov,i<m) (hcl:∀i∈ov,∀j∈J i,j∈ov) (pw:ov.Pairwise (fun x y=>y∉J x)) (hT:∀i,i<m→T i≤ck)
 (h1:∀i,i<m→i∉ov.filter (stl J T m)→T' i=T i) (h2:∀a (h:a<(ov.filter (stl J T m)).length),T' ((ov.filter (stl J T m))[a])=ck+1+a):∀n i,m-i≤n→i∈ov→stl J T' m i=false
 |0,i,hn,hi=>by have:=hm i hi;omega
 |n+1,i,hn,hi=>by
  have him:=hm i hi;have hpl:(ov.filter (stl J T m)).Pairwise (fun x y=>y∉J x):=pw.filter _;rw[stl_is h T' i him,Bool.or_eq_false_iff,decide_eq_false_iff_not,List.any_eq_false]
  by_cases hs:stl J T m i=true
  ·have hil:i∈ov.filter (stl J T m):=List.mem_filter.2 ⟨hi,hs⟩
   obtain⟨a,ha,e⟩:=List.getElem_of_mem hil;have ti:=h2 a ha;rw[e] at ti;refine⟨by omega,fun j hj=> ?_⟩;have hjl:=h.lt i him j hj;rw[fresh h h0 hm hcl pw hT h1 h2 n j (by omega) (hcl i hi j hj),Bool.false_or,decide_eq_true_eq]
   by_cases hsj:j∈ov.filter (stl J T m)
   ·obtain⟨b,hb,e2⟩:=List.getElem_of_mem hsj
    have tj:=h2 b hb;rw[e2] at tj;have:=idx_before hpl ha hb (by rw[e,e2];exact hj) (by rw[e,e2];omega);omega
   ·have:=h1 j hjl.2 hsj
    have:=hT j hjl.2;omega
  ·have hil:i∉ov.filter (stl J T m):=fun q=>hs (List.mem_filter.1 q).2
   have ti:=h1 i him hil;have hsf:stl J T m i=false:=by simpa using hs
   rw[stl_is h T i him,Bool.or_eq_false_iff,decide_eq_false_iff_not,List.any_eq_false] at hsf;refine⟨by omega,fun j hj=> ?_⟩;have hjl:=h.lt i him j hj;have hsj:=hsf.2 j hj;rw[fresh h h0 hm hcl pw hT h1 h2 n j (by omega) (hcl i hi j hj),Bool.false_or,decide_eq_true_eq];rw[Bool.or_eq_true,not_or,decide_eq_true_eq] at hsj;have:=h1 j hjl.2 (fun q=>hsj.1 (List.mem_filter.1 q).2);omega
theorem count_all {l:List Nat} {m:Nat} (nd:l.Nodup) (hl:∀i∈l,i<m):((List.range m).filter (fun i=>decide (i∈l))).length=l.length:=by
 refine List.Perm.length_eq ((List.perm_ext_iff_of_nodup (List.nodup_range.sublist List.filter_sublist) nd).2 fun x=> ?_);rw[List.mem_filter,List.mem_range,decide_eq_true_eq];exact⟨fun q=>q.2,fun q=>⟨hl x q,q⟩⟩
theorem few_all {l:List Nat} {m:Nat} (nd:l.Nodup) (hl:∀i∈l,i<m):l.length≤m:=by
 rw[←count_all nd hl];have:=List.length_filter_le (fun i=>decide (i∈l)) (List.range m);rw[List.length_range] at this;exact this
theorem atI_in {l:List Nat} (nd:l.Nodup) (hl:∀j∈l,j<12) (a:Nat) (h:a<l.length):atI (l.map wNm) (wNm l[a])=a:=by
 unfold atI
 have:(l.map wNm).findIdx? (fun x=>x==wNm l[a])=some a:=by
  rw[List.findIdx?_eq_some_iff_getElem];refine⟨by simpa using h,by simp,fun j hj q=> ?_⟩;rw[List.getElem_map,beq_iff_eq] at q;have e:=wNm_inj (hl _ (List.getElem_mem _)) (hl _ (List.getElem_mem _)) q;have:=(List.getElem_inj nd).1 e;omega
 rw[this]
theorem atI_out {l:List Nat} (hl:∀j∈l,j<12) {i:Nat} (hi:i<12) (h:i∉l):atI (l.map wNm) (wNm i)= -1:=by
 apply atI_not;intro q;obtain⟨j,hj,e⟩:=List.mem_map.1 q;exact h ((wNm_inj (hl j hj) hi e)▸hj)
structure WFs (N:List Int) (fs:List Pl.File) (ck:Int) (B:Nat):Prop where
 uq:Pl.Uniq fs
 rl:∃f,Pl.look fs [82]=some f∧f.text=webT (JW N) (manyW N)
 tm:∀i,i<manyW N→Pl.look fs (Mk.nmB i)=none∨∃f,Pl.look fs (Mk.nmB i)=some f∧0≤f.time∧f.time≤ck
 sz:sumF fs≤B
section
variable {N:List Int} {fs:List Pl.File} {ck:Int} {B:Nat}
theorem WFs.web (h:WFs N fs ck B):WebW (manyW N) (tmF fs) fs:=fun i hi=>by
 rcases h.tm i hi with e|⟨f,e,h1,-⟩
 ·exact .inl ⟨e,by unfold tmF;rw[e];decide⟩
 ·exact .inr ⟨f,e,by unfold tmF;rw[e],by unfold tmF;rw[e];exact h1⟩
theorem WFs.le (h:WFs N fs ck B) (h0:0≤ck):∀i,i<manyW N→tmF fs i≤ck:=fun i hi=>by
 unfold tmF
 rcases h.tm i hi with e|⟨f,e,-,h1⟩
 ·rw[e];show(-1:Int)≤ck;omega
 ·rw[e];exact h1
theorem nmB_R (j:Nat):Mk.nmB j≠[82]:=fun e=>by cases (congrArg List.length e)
theorem WFs.next (h:WFs N fs ck B) (h0:0≤ck) {l:List Nat} (nd:l.Nodup) (hl:∀j∈l,j<12) (hm:manyW N≤12):WFs N (Pl.sortF (mkF madeB l ck fs)) (ck+l.length) (B+7*l.length):=by
 have hu:=mkF_uniq madeB l ck fs h.uq;refine⟨uniq_sort hu,?_,fun i hi=> ?_,?_⟩
 ·rw[look_sort hu,mkF_look _ _ _ _ _ fun j _=>nmB_R j]
  exact h.rl
 ·rw[look_sort hu]
  by_cases hil:i∈l
  ·obtain⟨a,ha,rfl⟩:=List.getElem_of_mem hil
   refine .inr ⟨_,mkF_at madeB l ck fs nd hl a ha,?_,?_⟩
   ·show 0≤ck+1+(a:Int);omega
   ·show ck+1+(a:Int)≤ck+l.length;omega
  ·rw[mkF_not _ _ _ hl (by omega) hil]
   rcases h.tm i hi with e|⟨f,e,h1,h2⟩
   ·exact .inl e
   ·exact .inr ⟨f,e,h1,by omega⟩
 ·rw[sumF_perm (sortF_perm _)]
  have:=mkF_sum l ck fs;have:=h.sz;omega
theorem tm_not (h:WFs N fs ck B) {l:List Nat} (hl:∀j∈l,j<12) {i:Nat} (hi:i<12) (hil:i∉l):tmF (Pl.sortF (mkF madeB l ck fs)) i=tmF fs i:=by
 unfold tmF;rw[look_sort (mkF_uniq madeB l ck fs h.uq),mkF_not _ _ _ hl hi hil]
theorem tm_at (h:WFs N fs ck B) {l:List Nat} (nd:l.Nodup) (hl:∀j∈l,j<12) (a:Nat) (ha:a<l.length):tmF (Pl.sortF (mkF madeB l ck fs)) l[a]=ck+1+a:=by
 unfold tmF;rw[look_sort (mkF_uniq madeB l ck fs h.uq),mkF_at madeB l ck fs nd hl a ha]
end
theorem need_in {N:List Int} {i j:Nat} (hj:j<manyW N):j∈JW N i↔needW N i j=true:=by
 unfold JW;rw[List.mem_filter,List.mem_range];exact⟨fun h=>h.2,fun h=>⟨hj,h⟩⟩
def updB (R:Nat→Bool) (i:Nat) (v:Bool):Nat→Bool:=fun x=>if x=i then v else R x
theorem updB_at (R:Nat→Bool) (i:Nat) (v:Bool):updB R i v i=v:=if_pos rfl
theorem updB_ne (R:Nat→Bool) {i x:Nat} (v:Bool) (h:x≠i):updB R i v x=R x:=if_neg h
structure RcI (N:List Int) (g i j:Nat) (R:Nat→Bool):Prop where
 sound:∀x,R x=true→Rch (JW N) g x
 self:R g=true
 done:∀y,y<i→R y=true→∀z∈JW N y,R z=true
 here:R i=true→∀z∈JW N i,z<j→R z=true
section
variable {N:List Int} {g i j:Nat} {R:Nat→Bool}
theorem need_lt (hi:i<manyW N) {z:Nat} (hz:z∈JW N i):i<z∧z<manyW N:=(wb_ok N).lt i hi z hz
theorem need_gt {z:Nat} (hz:z∈JW N i):i<z:=by
 have h:=(List.mem_filter.1 hz).2;unfold needW at h;rw[Bool.and_eq_true] at h;exact(of_decide_eq_true h.1).2
theorem RcI.start (N:List Int) (g:Nat):RcI N g g (g+1) (updB (fun _=>false) g true):=by
 refine⟨fun x hx=> ?_,updB_at _ _ _,fun y hy hr=> ?_,fun _ z hz hl=> ?_⟩
 ·by_cases e:x=g
  ·rw[e];exact .self
  ·rw[updB_ne _ _ e] at hx;cases hx
 ·rw[updB_ne _ _ (by omega)] at hr;cases hr
 ·have:=need_gt hz;omega
theorem RcI.yes (h:RcI N g i j R) (hij:i<j) (hj:j<manyW N) (hi:R i=true) (hn:needW N i j=true):RcI N g i (j+1) (updB R j true):=by
 have keep:∀x,R x=true→updB R j true x=true:=fun x hx=>by
  by_cases e:x=j
  ·rw[e];exact updB_at _ _ _
  ·rw[updB_ne _ _ e];exact hx
 refine⟨fun x hx=> ?_,keep _ h.self,fun y hy hr z hz=> ?_,fun _ z hz hl=> ?_⟩
 ·by_cases e:x=j
  ·rw[e];exact .need (h.sound i hi) ((need_in hj).2 hn)
  ·rw[updB_ne _ _ e] at hx;exact h.sound x hx
 ·rw[updB_ne _ _ (by omega)] at hr
  exact keep _ (h.done y hy hr z hz)
 ·by_cases e:z=j
  ·rw[e];exact updB_at _ _ _
  ·exact keep _ (h.here hi z hz (by omega))
theorem RcI.no (h:RcI N g i j R) (hj:j<manyW N) (hn:(R i&&needW N i j)=false):RcI N g i (j+1) R:=by
 refine⟨h.sound,h.self,h.done,fun hr z hz hl=> ?_⟩
 by_cases e:z=j
 ·subst e
  rw[hr,Bool.true_and] at hn;rw[(need_in hj).1 hz] at hn;cases hn
 ·exact h.here hr z hz (by omega)
theorem RcI.next (h:RcI N g i (manyW N) R):RcI N g (i+1) (i+2) R:=by
 refine⟨h.sound,h.self,fun y hy hr z hz=> ?_,fun _ z hz hl=> ?_⟩
 ·by_cases e:y=i
  ·subst e
   have:=List.mem_range.1 (List.mem_filter.1 hz).1;exact h.here hr z hz this
  ·exact h.done y (by omega) hr z hz
 ·have:=need_gt hz;omega
theorem RcI.all (h:RcI N g (manyW N) j R) (hg:g<manyW N) (x:Nat):R x=true↔Rch (JW N) g x:=by
 refine⟨h.sound x,fun hx=> ?_⟩
 have:x<manyW N∧R x=true:=by
  induction hx with
  |self=>exact⟨hg,h.self⟩
  |need _ hj ih=>exact⟨(need_lt ih.1 hj).2,h.done _ ih.1 ih.2 _ hj⟩
 exact this.2
end
structure SlI (N:List Int) (t:Nat→Int) (i j:Nat) (R:Nat→Bool):Prop where
 above:∀x,i<x→x<manyW N→R x=stl (JW N) t (manyW N) x
 here:R i=(decide (t i<0)||(JTo N i j).any fun z=>stl (JW N) t (manyW N) z||decide (t i<t z))
section
variable {N:List Int} {t:Nat→Int} {i j:Nat} {R:Nat→Bool}
theorem JTo_none (N:List Int) (i:Nat):JTo N i (i+1)=[]:=by
 unfold JTo;rw[List.filter_eq_nil_iff];intro z hz;have:=List.mem_range.1 hz;unfold needW;rw[decide_eq_false (fun q=>by omega)];simp
theorem SlI.start (h:∀x,i<x→x<manyW N→R x=stl (JW N) t (manyW N) x):SlI N t i (i+1) (updB R i (decide (t i<0))):=by
 refine⟨fun x h1 h2=> ?_,?_⟩
 ·rw[updB_ne _ _ (by omega)];exact h x h1 h2
 ·rw[updB_at,JTo_none];simp
theorem SlI.yes (h:SlI N t i j R) (hn:needW N i j=true) (hs:(stl (JW N) t (manyW N) j||decide (t i<t j))=true):SlI N t i (j+1) (updB R i true):=by
 refine⟨fun x h1 h2=> ?_,?_⟩
 ·rw[updB_ne _ _ (by omega)];exact h.above x h1 h2
 ·rw[updB_at,JTo_next,if_pos hn,List.any_append,List.any_cons,hs];simp
theorem SlI.no (h:SlI N t i j R) (hs:(needW N i j&&(stl (JW N) t (manyW N) j||decide (t i<t j)))=false):SlI N t i (j+1) R:=by
 refine⟨h.above,?_⟩;rw[h.here,JTo_next];cases hn:needW N i j with
 |false=>simp
 |true=>
  rw[hn,Bool.true_and] at hs;rw[if_pos rfl,List.any_append,List.any_cons,hs];simp
theorem SlI.done (h:SlI N t i (manyW N) R) (hi:i<manyW N):∀x,i≤x→x<manyW N→R x=stl (JW N) t (manyW N) x:=fun x h1 h2=>by
 by_cases e:x=i
 ·subst e
  rw[h.here,stl_is (wb_ok N) t x hi];rfl
 ·exact h.above x (by omega) h2
end
theorem stl_same {J:Nat→List Nat} {m:Nat} (h:WbOk J m) {t u:Nat→Int} (hs:∀i,i<m→t i=u i∨(t i<0∧u i<0)):∀(f i:Nat),i<m→stl J t f i=stl J u f i
 |0,_,_=>rfl
 |f+1,i,hi=>by
  rw[stl,stl]
  by_cases h0:t i<0
  ·have h1:u i<0:=by rcases hs i hi with e|e<;>omega
   rw[decide_eq_true h0,decide_eq_true h1];rfl
  ·have h1:t i=u i:=by rcases hs i hi with e|e<;>omega
   rw[h1]
   congr 1
   refine any_same _ fun j hj=> ?_
   have hj2:=h.lt i hi j hj;rw[stl_same h hs f j hj2.2]
   congr 1
   rcases hs j hj2.2 with e|e
   ·rw[e]
   ·rw[decide_eq_false (by omega),decide_eq_false (by omega)]
theorem upTo_all:∀l:List Nat,upToW (fun _=>0) l=l
 |[]=>rfl
 |i::r=>by rw[upToW,if_pos rfl,upTo_all r]
theorem lastEx_all:∀l:List Nat,lastEx (fun _=>0) l=0
 |[]=>rfl
 |i::r=>by rw[lastEx,if_pos rfl,lastEx_all r]
theorem time_le (T:List Int) (i:Nat):timeW T i≤100:=by
 unfold timeW;split
 ·have h1:=Int.emod_lt_of_pos (absI (T.getD i 0)) (show (0:Int)<(40:Nat) by decide)
  have h2:=Int.emod_nonneg (absI (T.getD i 0)) (show ((40:Nat):Int)≠0 by decide);unfold pickI;omega
 ·decide
theorem web_sum (N T:List Int):sumF (filesW N T)≤600:=by
 have h1:(webT (JW N) (manyW N)).length≤46*manyW N:=rT_len N (manyW N)
 have h2:∀l:List Nat,sumF (l.map fun i=>(⟨Mk.nmB i,[],timeW T i⟩:Pl.File))=3*l.length:=fun l=>by
  induction l with
  |nil=>rfl
  |cons x r ih=>
   rw[List.map_cons,sumF,ih,List.length_cons];show 2+0+1+3*r.length=_;omega
 have h3:=(many_le N).2;have h4:=List.length_filter_le (fun i=>decide (0≤timeW T i)) (List.range (manyW N));rw[List.length_range] at h4;unfold filesW;rw[sumF,h2];simp only[List.length_cons,List.length_nil];omega
theorem web_fs (N T:List Int):WFs N (filesW N T) 100 600:=by
 refine⟨filesW_uniq N T,⟨_,filesW_rules N T,rfl⟩,fun i hi=> ?_,web_sum N T⟩
 rcases filesW_web N T i hi with⟨h1,-⟩|⟨f,h1,h2,h3⟩
 ·exact .inl h1
 ·exact .inr ⟨f,h1,by rw[h2];exact h3,by rw[h2];exact time_le T i⟩
theorem web_tm (N T:List Int):∀i,i<manyW N→timeW T i=tmF (filesW N T) i∨(timeW T i<0∧tmF (filesW N T) i<0):=fun i hi=>by
 unfold tmF
 rcases filesW_web N T i hi with⟨h1,h2⟩|⟨f,h1,h2,h3⟩
 ·rw[h1];exact .inr ⟨h2,by decide⟩
 ·rw[h1];exact .inl h2.symm
structure OvOk (N:List Int) (g:Nat) (ov:List Nat):Prop where
 lt:∀i∈ov,i<manyW N
 all:∀i,i∈ov↔Rch (JW N) g i
 nd:ov.Nodup
 pw:ov.Pairwise (fun x y=>y∉JW N x)
 cl:∀i∈ov,∀j∈JW N i,j∈ov
def stW (N:List Int) (fs:List Pl.File):Nat→Bool:=stl (JW N) (tmF fs) (manyW N)
theorem OvOk.small {N:List Int} {g:Nat} {ov:List Nat} (h:OvOk N g ov) (S:Nat→Bool):(ov.filter S).Nodup∧(∀i∈ov.filter S,i<12)∧∀i∈ov.filter S,i<manyW N:=
 have hl:∀i∈ov.filter S,i<manyW N:=fun i hi=>h.lt i (List.mem_filter.1 hi).1
 ⟨h.nd.sublist List.filter_sublist,fun i hi=>Nat.lt_of_lt_of_le (hl i hi) (many_le N).2,hl⟩
theorem once_at {N:List Int} {g:Nat} {ov:List Nat} (h:OvOk N g ov) {S R:Nat→Bool} (hR:∀i,R i=true↔Rch (JW N) g i) {i:Nat} (hi:i<manyW N):
 (∃a:Nat,i∈ov.filter S∧a<12∧atI ((ov.filter S).map wNm) (wNm i)=(a:Int)∧(R i&&S i)=true∧∀j,j<manyW N→needW N i j=true→atI ((ov.filter S).map wNm) (wNm j)≤(a:Int))∨(i∉ov.filter S∧atI ((ov.filter S).map wNm) (wNm i)= -1∧(R i&&S i)=false):=by
 obtain⟨nd,h12,hm⟩:=h.small S;have h12m:=(many_le N).2
 by_cases hl:i∈ov.filter S
 ·obtain⟨a,ha,rfl⟩:=List.getElem_of_mem hl
  have hf:=List.mem_filter.1 hl;refine .inl ⟨a,hl,?_,atI_in nd h12 a ha,?_,fun j hj hn=> ?_⟩
  ·have:=few_all nd hm;omega
  ·rw[(hR _).2 ((h.all _).1 hf.1),hf.2];rfl
  ·by_cases hjl:j∈ov.filter S
   ·obtain⟨b,hb,rfl⟩:=List.getElem_of_mem hjl
    rw[atI_in nd h12 b hb];have hji:=(need_in hj).2 hn;have:=need_gt hji;have:=idx_before (h.pw.filter _) ha hb hji (by omega);omega
   ·rw[atI_out h12 (by omega) hjl];omega
 ·refine .inr ⟨hl,atI_out h12 (by omega) hl,?_⟩
  cases hr:R i with
  |false=>rfl
  |true=>
   cases hs:S i with
   |false=>rfl
   |true=>exact absurd (List.mem_filter.2 ⟨(h.all i).2 ((hR i).1 hr),hs⟩) hl
theorem made_made {N:List Int} {g:Nat} {fs:List Pl.File} {ck:Int} {B:Nat} (hF:WFs N fs ck B) (h0:0≤ck) {ov:List Nat} (h:OvOk N g ov):∀i∈ov,stW N (Pl.sortF (mkF madeB (ov.filter (stW N fs)) ck fs)) i=false:=fun i hi=>by
 obtain⟨nd,h12,hm⟩:=h.small (stW N fs);have h12m:=(many_le N).2;refine fresh (wb_ok N) (T:=tmF fs) h0 h.lt h.cl h.pw (hF.le h0) (fun i hi hn=> ?_) (fun a ha=> ?_) (manyW N) i (by omega) hi
 ·exact tm_not hF h12 (by omega) hn
 ·exact tm_at hF nd h12 a ha
theorem filter_none {ov:List Nat} {S:Nat→Bool} (h:∀i∈ov,S i=false):ov.filter S=[]:=by
 rw[List.filter_eq_nil_iff];intro i hi;rw[h i hi];simp
theorem two_few {N:List Int} {g f:Nat} {ov vo:List Nat} (h:OvOk N g ov) (k:OvOk N f vo) {S R:Nat→Bool} (hR:∀i∈ov,R i=false):(vo.filter R).length+(ov.filter S).length≤manyW N:=by
 obtain⟨n1,-,m1⟩:=h.small S;obtain⟨n2,-,m2⟩:=k.small R;rw[←List.length_append];refine few_all (List.nodup_append.2 ⟨n2,n1,fun a ha b hb e=> ?_⟩) fun i hi=> ?_
 ·subst e
  have:=(List.mem_filter.1 ha).2;rw[hR a (List.mem_filter.1 hb).1] at this;cases this
 ·rcases List.mem_append.1 hi with q|q
  ·exact m2 i q
  ·exact m1 i q
def exK (k:Nat) (x:Int):Nat→Int:=fun i=>if i=k then x else 0
theorem upTo_not {ex:Nat→Int}:∀{l:List Nat},(∀i∈l,ex i=0)→upToW ex l=l∧lastEx ex l=0
 |[],_=>⟨rfl,rfl⟩
 |i::r,h=>by
  obtain⟨a,b⟩:=upTo_not (l:=r) fun j hj=>h j (List.mem_cons_of_mem _ hj)
  have h0:=h i (List.mem_cons_self ..);rw[upToW,if_pos h0,lastEx,if_pos h0,a];exact⟨rfl,b⟩
theorem upTo_at {ex:Nat→Int}:∀(l:List Nat) (a:Nat) (h:a<l.length),(∀b (hb:b<a),ex (l[b]'(by omega))=0)→ex l[a]≠0→upToW ex l=l.take (a+1)∧lastEx ex l=ex l[a]
 |i::r,0,h,_,hx=>by
  simp only[List.getElem_cons_zero] at hx⊢;rw[upToW,if_neg hx,lastEx,if_neg hx];simp
 |i::r,a+1,h,hb,hx=>by
  have h0:ex i=0:=hb 0 (by omega);simp only[List.getElem_cons_succ] at hx⊢;obtain⟨h1,h2⟩:=upTo_at r a (by simpa using h) (fun b hb' =>by simpa using hb (b+1) (by omega)) hx;rw[upToW,if_pos h0,lastEx,if_pos h0,h1];exact⟨by simp,h2⟩
theorem stop_at {l:List Nat} (nd:l.Nodup) (h12:∀i∈l,i<12) {k:Nat} (hk:k<12) (x:Int):
 ((atI (l.map wNm) (wNm k)= -1∨x=0)∧upToW (exK k x) l=l∧lastEx (exK k x) l=0)∨(∃a:Nat,a<l.length∧x≠0∧atI (l.map wNm) (wNm k)=(a:Int)∧upToW (exK k x) l=l.take (a+1)∧lastEx (exK k x) l=x):=by
 by_cases hx:x=0
 ·refine .inl ⟨.inr hx,upTo_not fun i _=> ?_⟩
  unfold exK;rw[hx];simp
 ·by_cases hl:k∈l
  ·obtain⟨a,ha,rfl⟩:=List.getElem_of_mem hl
   have he:exK l[a] x l[a]=x:=if_pos rfl
   obtain⟨h1,h2⟩:=upTo_at (ex:=exK l[a] x) l a ha (fun b hb=>by
    unfold exK;rw[if_neg];intro e;have:=(List.getElem_inj nd).1 e
    omega) (by rw[he];exact hx)
   exact .inr ⟨a,ha,hx,atI_in nd h12 a ha,h1,by rw[h2,he]⟩
  ·refine .inl ⟨.inl (atI_out h12 hk hl),upTo_not fun i hi=> ?_⟩
   unfold exK;rw[if_neg];intro e;exact hl (e▸hi)
theorem sameResult_any (cs:List Pl.Bs) (fs:List Pl.File) (ex ck:Int) (a1 a2 a3 a4:Option Addr) (k1 k2 k3 k4 b1 b2 b3 b4 o1 o2 o3 o4:Nat) (w:World)
 (h1:0<cs.length→a1=some ⟨b1,o1,none⟩) (h2:0<fs.length→a2=some ⟨b2,o2,none⟩) (h3:0<cs.length→a3=some ⟨b3,o3,none⟩) (h4:0<fs.length→a4=some ⟨b4,o4,none⟩)
 (r1:RdS w b1 o1 cs) (r2:RdF w b2 o2 fs) (r3:RdS w b3 o3 cs) (r4:RdF w b4 o4 fs)
 (l1:0<cs.length→b1<w.heap.size) (l2:0<fs.length→b2<w.heap.size) (l3:0<cs.length→b3<w.heap.size) (l4:0<fs.length→b4<w.heap.size) (hc:cs.length≤8388608) (hf:fs.length≤8388608):
 Calls Tryz.prog 28 #[.agg #[.slice a1 cs.length k1,.slice a2 fs.length k2,.int .i64 ex,.int .i64 ck],.agg #[.slice a3 cs.length k3,.slice a4 fs.length k4,.int .i64 ex,.int .i64 ck]] w fun e w' =>e= .returned (.bool true)∧Below w.heap.size w w' :=by
 have H1:=hide h1;have H2:=hide h2;have H3:=hide h3;have H4:=hide h4;have R1:=hide r1;have R2:=hide r2;have R3:=hide r3;have R4:=hide r4;have L1:=hide l1;have L2:=hide l2;have L3:=hide l3;have L4:=hide l4;clear h1 h2 h3 h4 r1 r2 r3 r4 l1 l2 l3 l4
 go_enter Tryz.func28,Tryz.ntmps28
 go_wp2_with fail
 obtain⟨hx,hy⟩:=box_two w 48 48 (.slice a1 cs.length k1) (.slice a2 fs.length k2) (.int .i64 ex) (.int .i64 ck) (.slice a3 cs.length k3) (.slice a4 fs.length k4) (.int .i64 ex) (.int .i64 ck);have HX:=hide hx;have HY:=hide hy;clear hx hy
 generalize ((w.alloc (.cells #[(.slice a1 cs.length k1),(.slice a2 fs.length k2),(.int .i64 ex),(.int .i64 ck)] 48)).alloc (.cells #[(.slice a3 cs.length k3),(.slice a4 fs.length k4),(.int .i64 ex),(.int .i64 ck)] 48))=W0 at*
 go_loopw [5] (fun i wr=>∃k:Nat,i= .int .i64 k∧k≤cs.length∧Hid (Boxed w w.heap.size 48 (.slice a1 cs.length k1) (.slice a2 fs.length k2) (.int .i64 ex) (.int .i64 ck) wr)∧Hid (Boxed w (w.heap.size+1) 48 (.slice a3 cs.length k3) (.slice a4 fs.length k4) (.int .i64 ex) (.int .i64 ck) wr)) (fun i _=>cs.length-intN i)
 case atStart=>exact⟨0,rfl,Nat.zero_le _,HX,HY⟩
 case round=>
  clear HX HY;obtain⟨k,rfl,hkl,HX,HY⟩:=hrel;obtain⟨x0,x1,x2,x3⟩:=(uh HX).cells;obtain⟨y0,y1,y2,y3⟩:=(uh HY).cells
  by_cases hk:k<cs.length
  ·obtain rfl:=uh H1 (by omega)
   obtain rfl:=uh H3 (by omega);have p:=(uh R1).below (uh HX).below (uh L1 (by omega)) k hk;have q:=(uh R3).below (uh HX).below (uh L3 (by omega)) k hk;generalize cs[k]=ck0 at*;unfold strV at p q;have t1:(k:Int)<(cs.length:Int):=by omega
   go_wp2_with fail
   go_quiet (fail)
   go_wp2_with fail
   go_roundw
   case rel=>exact⟨k+1,by go_num,by omega,(uh HX).drewN _,(uh HY).drewN _⟩
   case measure=>simp only[intN];omega
  ·have t1:¬(k:Int)<(cs.length:Int):=by omega
   go_wp2_with fail
   clear x0 x1 x2 x3 y0 y1 y2 y3
   go_loopw [6] (fun i wr=>∃k:Nat,i= .int .i64 k∧k≤fs.length∧Hid (Boxed w w.heap.size 48 (.slice a1 cs.length k1) (.slice a2 fs.length k2) (.int .i64 ex) (.int .i64 ck) wr)∧Hid (Boxed w (w.heap.size+1) 48 (.slice a3 cs.length k3) (.slice a4 fs.length k4) (.int .i64 ex) (.int .i64 ck) wr)) (fun i _=>fs.length-intN i)
   case atStart=>exact⟨0,rfl,Nat.zero_le _,HX,HY⟩
   case round=>
    clear HX HY;obtain⟨k',rfl,hkl',HX,HY⟩:=hrel;obtain⟨x0,x1,x2,x3⟩:=(uh HX).cells;obtain⟨y0,y1,y2,y3⟩:=(uh HY).cells
    by_cases hk' :k' <fs.length
    ·obtain rfl:=uh H2 (by omega)
     obtain rfl:=uh H4 (by omega);obtain⟨p0,p1,p2⟩:=(uh R2).below (uh HX).below (uh L2 (by omega)) k' hk';obtain⟨q0,q1,q2⟩:=(uh R4).below (uh HX).below (uh L4 (by omega)) k' hk';generalize fs[k']=fk at*;unfold strV at p0 p1 q0 q1;have t2:(k' :Int)<(fs.length:Int):=by omega
     go_wp2_with fail
     go_quiet (fail)
     go_wp2_with fail
     go_roundw
     case rel=>exact⟨k' +1,by go_num,by omega,(uh HX).drewN _,(uh HY).drewN _⟩
     case measure=>simp only[intN];omega
    ·have t2:¬(k' :Int)<(fs.length:Int):=by omega
     go_wp2_with fail
     go_ret
     exact⟨rfl,(uh HX).below⟩
end Go.Proofs.YtjelacjggijmfaaGreatDoor
