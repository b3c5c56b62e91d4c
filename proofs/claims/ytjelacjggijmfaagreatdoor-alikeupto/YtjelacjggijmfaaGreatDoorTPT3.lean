/-
  A plan can hold what rules may come to.
-/
import Derived.Test.YtjelacjggijmfaaGreatDoorTGH4
import Derived.Test.YtjelacjggijmfaaGreatDoorTWP7
import Derived.Test.YtjelacjggijmfaaGreatDoorTPS3
namespace Go.Proofs.YtjelacjggijmfaaGreatDoor
open Go.RowKit Go.MapKept Go.ChangeMaps Go.Maps
theorem give_cnt {N:Pl.Bs→Cp.Nv} {sg:UInt8→Option Pl.Bs}:∀(cs:List (Pl.Bs×Nat)) (k:Nat) (acc:List Pl.Bs) (k' :Nat) (out:List Pl.Bs),GiveR N sg cs k acc (.inr (k',out))→k≤k' ∧(k' ≤500→out.length+k=acc.length+k')
 |[],k,acc,k',out,h=>by
  have e:(Sum.inr (k',out):(Nat×Nat)⊕(Nat×List Pl.Bs))= .inr (k,acc):=h;cases e;exact⟨Nat.le_refl _,fun _=>rfl⟩
 |c::rest,k,acc,k',out,⟨r,h1,h⟩=>by
  split at h
  ·cases h
  ·split at h
   ·exact give_cnt rest k acc k' out h
   ·obtain⟨a,b⟩:=give_cnt rest (k+1) _ k' out h
    refine⟨by omega,fun h5=> ?_⟩;have:=b h5;rw[if_pos (by omega),List.length_append,List.length_singleton] at this;omega
theorem steps_of {N:Pl.Bs→Cp.Nv}:∀(nodes:List Nod) (k:Nat) (acc:List Stp) (k' :Nat) (ss:List Stp),StepsR N nodes k acc (.inr (k',ss))→k≤k' ∧(k' ≤500→cmdsN ss+k=cmdsN acc+k')∧ss.map (fun x=>(x.name,x.needs))=acc.map (fun x=>(x.name,x.needs))++nodes.map (fun x=>(x.name,x.needs))
 |[],k,acc,k',ss,h=>by
  have e:(Sum.inr (k',ss):(Nat×Nat)⊕(Nat×List Stp))= .inr (k,acc):=h;cases e;exact⟨Nat.le_refl _,fun _=>rfl,by simp⟩
 |x::rest,k,acc,k',ss,⟨G,h1,h⟩=>by
  cases G with
  |inl e=>cases h
  |inr p=>
   obtain⟨k1,cs⟩:=p;obtain⟨a1,a2⟩:=give_cnt _ _ _ _ _ h1;obtain⟨b1,b2,b3⟩:=steps_of rest k1 _ k' ss h;refine⟨by omega,fun h5=> ?_,?_⟩
   ·have c1:=a2 (by omega)
    have c2:=b2 h5;rw[cmdsN_append] at c2;simp only[cmdsN,List.length_nil] at c1 c2;omega
   ·rw[b3,List.map_append,List.append_assoc]
    rfl
theorem text_len {fs:List Pl.File} {path goal:Pl.Bs} {r:Pl.Bs×Nat×Nat} (h:TextR fs path goal r) (h0:r.2.1=0) (hn:NmB (bookF fs path).2.2 fs (goalF (bookF fs path).2.2 goal) 64000):r.1.length≤8388608:=by
 obtain⟨-,q,k,ss,h1,h2,h3,hg,h4,h5,h6⟩:=h.plan h0;obtain⟨-,a2,a3⟩:=steps_of _ _ _ _ _ h4;have hov:=(walk_ov h1 h2).1;have hu:=ndu_book fs path;have hnm:=hn hg q h1 h2 h3
 have hnd:∀x∈q.2.over,x.name.length≤64000∧x.needs.length≤100∧∀n∈x.needs,n.length≤64000:=fun x hx=>by
  obtain⟨z1,z2⟩:=over_needs hu hov h3 hx;refine⟨hnm x hx,z1,fun n hn=> ?_⟩;obtain⟨y,a,b⟩:=z2 n hn;rw[←b];exact hnm y a
 obtain⟨e1,e2⟩:=steps_size (P:=64000) _ _ _ _ _ h4 hnd (fun x hx=>by cases hx);simp only[List.map_nil,List.nil_append] at a3;refine plan_len h6 ?_ ?_ e2 fun x hx n hm=> ?_
 ·rw[e1,List.length_nil];omega
 ·have:=a2 h5
  simp only[cmdsN] at this;omega
 ·have hx2:(x.name,x.needs)∈ss.map fun x=>(x.name,x.needs):=List.mem_map.2 ⟨x,hx,rfl⟩
  rw[a3] at hx2;obtain⟨u,hu1,hu2⟩:=List.mem_map.1 hx2;have hu3:u.needs=x.needs:=by simpa using congrArg Prod.snd hu2
  obtain⟨y,hy,hyn⟩:=(over_needs hu hov h3 hu1).2 n (by rw[hu3];exact hm);have hy2:(y.name,y.needs)∈q.2.over.map fun x=>(x.name,x.needs):=List.mem_map.2 ⟨y,hy,rfl⟩
  rw[←a3] at hy2;obtain⟨v,hv1,hv2⟩:=List.mem_map.1 hy2;refine⟨v,hv1,?_⟩;have:v.name=y.name:=by simpa using congrArg Prod.fst hv2
  rw[this,hyn]
def sumF:List Pl.File→Nat
 |[]=>0
 |f::r=>f.path.length+f.text.length+1+sumF r
theorem sumF_mem:∀{fs:List Pl.File} {f:Pl.File},f∈fs→f.path.length+f.text.length+1≤sumF fs
 |[],_,h=>by cases h
 |g::r,f,h=>by
  rw[sumF]
  rcases List.mem_cons.1 h with e|e
  ·rw[e];omega
  ·have:=sumF_mem e
   omega
theorem sumF_len:∀fs:List Pl.File,fs.length≤sumF fs
 |[]=>Nat.le_refl _
 |f::r=>by
  have:=sumF_len r;rw[sumF,List.length_cons];omega
theorem sumP_append (a b:List Pl.File):sumP (a++b)=sumP a+sumP b:=by
 induction a with
 |nil=>simp[sumP]
 |cons x r ih=>rw[List.cons_append,sumP,sumP,ih];omega
theorem adds_sum:∀(fs acc:List Pl.File),sumP (fs.foldl Pl.addF acc)≤sumP acc+sumF fs∧∀f∈fs.foldl Pl.addF acc,f∈acc∨f∈fs
 |[],acc=>⟨Nat.le_refl _,fun f hf=> .inl hf⟩
 |g::r,acc=>by
  obtain⟨h1,h2⟩:=adds_sum r (Pl.addF acc g);rw[List.foldl_cons,sumF]
  have h3:sumP (Pl.addF acc g)≤sumP acc+g.path.length∧∀f∈Pl.addF acc g,f∈acc∨f=g:=by
   unfold Pl.addF;split
   ·exact⟨Nat.le_add_right _ _,fun f hf=> .inl hf⟩
   ·refine⟨by rw[sumP_append];simp[sumP],fun f hf=> ?_⟩
    rcases List.mem_append.1 hf with e|e
    ·exact .inl e
    ·exact .inr (List.mem_singleton.1 e)
  refine⟨by omega,fun f hf=> ?_⟩
  rcases h2 f hf with e|e
  ·rcases h3.2 f e with q|q
   ·exact .inl q
   ·exact .inr (by rw[q];exact List.mem_cons_self ..)
  ·exact .inr (List.mem_cons_of_mem _ e)
theorem nm_all {fs0:List Pl.File} (hs:sumF fs0≤1048576) (path goal:Pl.Bs):NmB (bookF (fs0.foldl Pl.addF []) path).2.2 (fs0.foldl Pl.addF []) (goalF (bookF (fs0.foldl Pl.addF []) path).2.2 goal) 64000:=by
 obtain⟨h1,h2⟩:=adds_sum fs0 [];have hin:∀f∈fs0.foldl Pl.addF [],f∈fs0:=fun f hf=>(h2 f hf).resolve_left (fun q=>by cases q)
 obtain⟨k,hok,-⟩:=book_ok (M:=1048577) (fs:=fs0.foldl Pl.addF []) (fun p g h=>by
  have:=sumF_mem (hin g (List.mem_of_find?_eq_some h))
  omega) path
 exact nmb_any hok (tgs_book _ _) (pcs_book _ _) (by simp only[sumP] at h1;omega) _
theorem fsOk {fs0:List Pl.File} (hs:sumF fs0≤1048576) (path goal:Pl.Bs):FsOk fs0 path goal:=by
 obtain⟨h1,h2⟩:=adds_sum fs0 [];have hin:∀f∈fs0.foldl Pl.addF [],f∈fs0:=fun f hf=>(h2 f hf).resolve_left (fun q=>by cases q)
 have hl:=sumF_len fs0;have ha:=add_len fs0 [];refine⟨by omega,⟨1048577,by decide,fun p g h=> ?_⟩,?_,fun f hf=> ?_,64000,by decide,nm_all hs path goal⟩
 ·have:=sumF_mem (hin g (List.mem_of_find?_eq_some h))
  omega
 ·simp only[List.length_nil] at ha;omega
 ·have:=sumF_mem (hin f hf)
  omega
def stD (D:List Pl.Bs) (fs:List Pl.File) (x:Stp):Bool:=x.ph||((Pl.look fs x.name).isNone||x.needs.any fun n=>D.contains n||Pl.newer fs x.name n)
def doB (ef:List Pl.Eff):List Stp→List Pl.Bs→Pl.Wd→Pl.Wd
 |[],_,X=>X
 |x::r,D,X=>if X.exit=0 then(if stD D X.files x then doB ef r (x.name::D) (gv ef x.cmds X) else doB ef r D X) else X
theorem doB_stop (ef:List Pl.Eff) (ss:List Stp) (D:List Pl.Bs) (X:Pl.Wd) (h:X.exit≠0):doB ef ss D X=X:=by
 cases ss with
 |nil=>rfl
 |cons x r=>rw[doB,if_neg h]
def flsOf:List Stp→Nat→Flags
 |[],_=>[]
 |x::r,i=>(x.name,i)::flsOf r (i+1)
theorem flPut_last (k:Pl.Bs) (v:Nat):∀(fl:Flags),(∀x∈fl,x.1≠k)→flPut fl k v=fl++[(k,v)]
 |[],_=>rfl
 |x::r,h=>by
  have:=h x (List.mem_cons_self ..);rw[flPut,if_neg (by simpa using this),flPut_last k v r fun y hy=>h y (List.mem_cons_of_mem _ hy)];rfl
theorem flsOf_mem:∀(ss:List Stp) (i:Nat) (x:Pl.Bs×Nat),x∈flsOf ss i→x.1∈ss.map (·.name)
 |[],_,_,h=>by cases h
 |y::r,i,x,h=>by
  rcases List.mem_cons.1 h with q|q
  ·rw[q];simp
  ·rw[List.map_cons];exact List.mem_cons_of_mem _ (flsOf_mem r (i+1) x q)
theorem flsOf_snoc (x:Stp):∀(ss:List Stp) (i:Nat),flsOf (ss++[x]) i=flsOf ss i++[(x.name,i+ss.length)]
 |[],i=>by simp[flsOf]
 |y::r,i=>by
  rw[List.cons_append,flsOf,flsOf,flsOf_snoc x r (i+1),List.length_cons,show i+1+r.length=i+(r.length+1) by omega];rfl
theorem write_fls (ss:List Stp) (hd:(ss.map (·.name)).Nodup):∀j,j≤ss.length→(writeAt ss j).2=flsOf (ss.take j) 0
 |0,_=>by simp[writeAt,flsOf]
 |j+1,hj=>by
  have hl:j<ss.length:=by omega
  rw[writeAt_next ss j hl];simp only;rw[write_fls ss hd j (by omega),List.take_succ_eq_append_getElem hl,flsOf_snoc,List.length_take,Nat.min_eq_left (by omega),Nat.zero_add];refine flPut_last _ _ _ fun x hx e=> ?_
  have h1:=flsOf_mem _ _ x hx
  have h2:((ss.take j++[ss[j]]).map (·.name)).Nodup:=by
   rw[←List.take_succ_eq_append_getElem hl];exact hd.sublist ((List.take_sublist _ _).map _)
  rw[List.map_append,List.nodup_append] at h2;exact h2.2.2 x.1 h1 ss[j].name (by simp) e
theorem flag_at:∀(ss:List Stp) (i:Nat) (j:Nat) (h:j<ss.length),(ss.map (·.name)).Nodup→flagOf (flsOf ss i) ss[j].name=i+j
 |[],_,j,h,_=>by cases h
 |x::r,i,0,_,_=>by
  unfold flagOf flsOf;simp
 |x::r,i,j+1,h,hd=>by
  rw[List.map_cons,List.nodup_cons] at hd;have hj:j<r.length:=by simpa using h
  have ih:=flag_at r (i+1) j hj hd.2
  have hne:(x.name==r[j].name)=false:=by
   rw[beq_eq_false_iff_ne];exact fun e=>hd.1 (by rw[e];exact List.mem_map.2 ⟨r[j],List.getElem_mem hj,rfl⟩)
  unfold flagOf at*;rw[flsOf];simp only[List.getElem_cons_succ];rw[List.find?_cons,hne];simp only;rw[ih];omega
def Ahead (ss:List Stp):Prop:=∀i (h:i<ss.length),∀n∈ss[i].needs,∃j,∃hj:j<i,(ss[j]'(by omega)).name=n
theorem any_cong {p q:Pl.Bs→Bool}:∀(l:List Pl.Bs),(∀n∈l,p n=q n)→l.any p=l.any q
 |[],_=>rfl
 |x::r,h=>by rw[List.any_cons,List.any_cons,h x (List.mem_cons_self ..),any_cong r fun y hy=>h y (List.mem_cons_of_mem _ hy)]
theorem doA_doB (ef:List Pl.Eff) (ss:List Stp) (hd:(ss.map (·.name)).Nodup) (ha:Ahead ss):∀(r pre:List Stp) (fl:Nat→Bool) (D:List Pl.Bs) (X:Pl.Wd),ss=pre++r→(∀j (h:j<pre.length),fl j=D.contains pre[j].name)→(∀q,pre.length≤q→fl q=false)→(∀n∈D,n∈pre.map (·.name))→doA ef (fOf ss) r pre.length (fl,X)=doB ef r D X
 |[],_,_,_,_,_,_,_,_=>rfl
 |x::r,pre,fl,D,X,hs,h1,h2,h3=>by
  rw[doA,doB];simp only
  by_cases hx:X.exit=0
  ·rw[if_pos hx,if_pos hx]
   have hpl:pre.length<ss.length:=by rw[hs];simp
   have hxe:ss[pre.length]=x:=by simp[hs]
   have hst:stB (fOf ss pre.length) fl X.files x=stD D X.files x:=by
    unfold stB stD
    congr 2
    refine any_cong _ fun n hn=> ?_
    obtain⟨j,hj,hjn⟩:=ha pre.length hpl n (by rw[hxe];exact hn);have hjs:j<(ss.take (pre.length+1)).length:=by rw[List.length_take];omega
    have e1:fOf ss pre.length n=j:=by
     unfold fOf;rw[write_fls ss hd _ (by omega)];have:=flag_at (ss.take (pre.length+1)) 0 j hjs (hd.sublist ((List.take_sublist _ _).map _));rw[List.getElem_take,hjn,Nat.zero_add] at this;exact this
    have e2:pre[j].name=n:=by
     rw[←hjn]
     congr 1
     simp[hs,List.getElem_append_left hj]
    rw[e1,h1 j hj,e2]
   have hnew:x.name∉pre.map (·.name):=fun hm=>by
    rw[hs,List.map_append,List.nodup_append] at hd;exact hd.2.2 _ hm x.name (by simp) rfl
   unfold doN;simp only;rw[hst];have hs' :ss=(pre++[x])++r:=by rw[hs];simp
   cases hc:stD D X.files x with
   |true=>
    rw[if_pos rfl,if_pos rfl];have:=doA_doB ef ss hd ha r (pre++[x]) (fun q=>if q=pre.length then true else fl q) (x.name::D) (gv ef x.cmds X) hs' (fun j hj=> ?_) (fun q hq=> ?_) (fun n hn=> ?_)
    ·rw[List.length_append] at this
     exact this
    ·rw[List.length_append,List.length_singleton] at hj
     by_cases e:j=pre.length
     ·subst e
      simp
     ·have hj' :j<pre.length:=by omega
      rw[List.getElem_append_left hj',if_neg e,h1 j hj']
      have hne:(pre[j].name==x.name)=false:=by
       rw[beq_eq_false_iff_ne];exact fun q=>hnew (by rw[←q];exact List.mem_map.2 ⟨_,List.getElem_mem hj',rfl⟩)
      rw[List.contains_cons,hne];rfl
    ·rw[List.length_append,List.length_singleton] at hq
     rw[if_neg (by omega)];exact h2 q (by omega)
    ·rw[List.map_append]
     rcases List.mem_cons.1 hn with e|e
     ·rw[e];simp
     ·exact List.mem_append_left _ (h3 n e)
   |false=>
    rw[if_neg (by simp),if_neg (by simp)];have:=doA_doB ef ss hd ha r (pre++[x]) fl D X hs' (fun j hj=> ?_) (fun q hq=> ?_) (fun n hn=> ?_)
    ·rw[List.length_append] at this
     exact this
    ·rw[List.length_append,List.length_singleton] at hj
     by_cases e:j=pre.length
     ·subst e
      rw[h2 _ (Nat.le_refl _)];have:¬x.name∈D:=fun q=>hnew (h3 _ q)
      simp[this]
     ·have hj' :j<pre.length:=by omega
      rw[List.getElem_append_left hj'];exact h1 j hj'
    ·rw[List.length_append,List.length_singleton] at hq
     exact h2 q (by omega)
    ·rw[List.map_append]
     exact List.mem_append_left _ (h3 n hn)
  ·rw[if_neg hx,if_neg hx]
theorem plan_does {ss:List Stp} {p:Pl.Bs} (h:planW ss=some p) (hd:(ss.map (·.name)).Nodup) (ha:Ahead ss):∃T c,Pl.load p=some (T,c)∧Pl.checkOf p∧∀ef X,X.exit=0→Pl.runW c T ef X=doB ef ss [] X:=by
 obtain⟨T,c,h1,h2,h3⟩:=plan_is h;refine⟨T,c,h1,h2,fun ef X hx=> ?_⟩;rw[h3 ef X hx];exact doA_doB ef ss hd ha ss [] _ [] X rfl (fun j hj=>by cases hj) (fun _ _=>rfl) (fun n hn=>by cases hn)
def AheadN (l:List Nod):Prop:=∀i (h:i<l.length),∀n∈l[i].needs,∃j,∃hj:j<i,(l[j]'(by omega)).name=n
theorem AheadN.snoc {l:List Nod} {x:Nod} (h:AheadN l) (hx:∀n∈x.needs,∃y∈l,y.name=n):AheadN (l++[x]):=fun i hi n hn=>by
 rw[List.length_append,List.length_singleton] at hi
 by_cases e:i=l.length
 ·subst e
  rw[List.getElem_concat_length rfl] at hn;obtain⟨y,hy,hyn⟩:=hx n hn;obtain⟨j,hj,rfl⟩:=List.getElem_of_mem hy;exact⟨j,hj,by rw[List.getElem_append_left hj];exact hyn⟩
 ·have hl:i<l.length:=by omega
  rw[List.getElem_append_left hl] at hn;obtain⟨j,hj,hjn⟩:=h i hl n hn;exact⟨j,hj,by rw[List.getElem_append_left (by omega)];exact hjn⟩
structure AhI (s:St) (fs:List Pl.File) (us:List (Nat×List Pl.Bs)) (t:Wst):Prop where
 ov:OvI s fs us none t
 ah:t.over.length≤100→AheadN t.over
section
variable {s:St} {fs:List Pl.File} {us:List (Nat×List Pl.Bs)}
theorem enter_over {t:Wst} {name:Pl.Bs}:(enterF s fs us t name).2.over=t.over:=by
 unfold enterF;split
 ·rfl
 ·split
  ·rfl
  ·split<;>rfl
theorem goOn_ah {t:Wst} {x:Nod×Nat} (h:AhI s fs us t) (hl:t.opn.getLast?=some x) (h0:(goOnF s fs us t).1=0):AhI s fs us (goOnF s fs us t).2:=by
 refine⟨goOn_ov h.ov hl h0,?_⟩;obtain⟨d,hd⟩:=List.getLast?_eq_some_iff.1 hl;have hlk:=h.ov.lk;rw[hd] at hlk;unfold goOnF;rw[hl];simp only;split
 ·rename_i hq
  unfold leaveF;rw[hl];simp only;split
  ·rename_i h1
   intro _;refine(h.ah h1).snoc fun n hn=> ?_
   obtain⟨j,hj⟩:=List.getElem?_of_mem hn;have hj2:=(List.getElem?_eq_some_iff.1 hj).1;have:=LkOk.last (two:=fun n=>flagOf t.sts n=2) d hlk j (by omega);rw[List.getD_eq_getElem?_getD,hj] at this;exact h.ov.all h1 n this
  ·intro h2
   exact h.ah h2
 ·rw[enter_over]
  exact h.ah
theorem over_ahead {g:Pl.Bs} {r:Nat×Wst} (h:FromR s fs us (enterF s fs us wst0 g) r) (h0:r.1=0) (hl:r.2.over.length≤100):AheadN r.2.over:=by
 obtain⟨n,hn⟩:=h;exact(fromF_keep (AhI s fs us) (fun t x h hl h0=>goOn_ah h hl h0) n _ r hn (fun e=>⟨enter_ov (ov0 g) e,fun _=>by rw[enter_over];exact fun i hi=>by cases hi⟩) h0).ah hl
end
theorem text_does {fs:List Pl.File} {path goal:Pl.Bs} {r:Pl.Bs×Nat×Nat} (h:TextR fs path goal r) (h0:r.2.1=0):∃q k ss T c,FromR (bookF fs path).2.2 fs (usL (bookF fs path).2.2 fs (bookF fs path).2.2.pats) (enterF (bookF fs path).2.2 fs (usL (bookF fs path).2.2 fs (bookF fs path).2.2.pats) wst0 (goalF (bookF fs path).2.2 goal)) q∧q.1=0∧q.2.over.length≤100∧StepsR (nOf (bookF fs path).2.2.names) q.2.over 0 [] (.inr (k,ss))∧Pl.load r.1=some (T,c)∧Pl.checkOf r.1∧∀ef X,X.exit=0→Pl.runW c T ef X=doB ef ss [] X:=by
 obtain⟨-,q,k,ss,h1,h2,h3,-,h4,-,h6⟩:=h.plan h0;obtain⟨-,-,a3⟩:=steps_of _ _ _ _ _ h4;simp only[List.map_nil,List.nil_append] at a3;have hov:=(walk_ov h1 h2).1;have hah:=over_ahead h1 h2 h3
 have hnm:ss.map (·.name)=q.2.over.map (·.name):=by
  have:=congrArg (List.map Prod.fst) a3
  simpa [List.map_map,Function.comp_def] using this
 have hnd:ss.map (·.needs)=q.2.over.map (·.needs):=by
  have:=congrArg (List.map Prod.snd) a3
  simpa [List.map_map,Function.comp_def] using this
 have hlen:ss.length=q.2.over.length:=by
  have:=congrArg List.length hnm
  simpa using this
 obtain⟨T,c,k1,k2,k3⟩:=plan_does h6 (by rw[hnm];exact hov.ovd) (fun i hi n hn=>by
  have e1:ss[i].needs=(q.2.over[i]'(by omega)).needs:=by
   have:=List.getElem_of_eq hnd (i:=i) (by simpa using hi)
   simpa using this
  rw[e1] at hn;obtain⟨j,hj,hjn⟩:=hah i (by omega) n hn;refine⟨j,hj,?_⟩;have:=List.getElem_of_eq hnm (i:=j) (by simp;omega);simp only[List.getElem_map] at this
  rw[this,hjn])
 exact⟨q,k,ss,T,c,h1,h2,h3,h4,k1,k2,k3⟩
def webN (J:Nat→List Nat) (i:Nat):Nod:=⟨Mk.nmB i,false,(J i).map Mk.nmB,[],[(wCmd,2*i+2)]⟩
inductive Rch (J:Nat→List Nat) (g:Nat):Nat→Prop
 |self:Rch J g g
 |need {i j:Nat}:Rch J g i→j∈J i→Rch J g j
section
variable {J:Nat→List Nat} {m g:Nat} {fs:List Pl.File}
theorem web_node (h:WbOk J m) {i:Nat} (hi:i<m) (us:List (Nat×List Pl.Bs)):nodeF (webS J m) fs us (Mk.nmB i)=(webN J i,true):=by
 have h12:i<12:=Nat.lt_of_lt_of_le hi h.le
 have hof:(webS J m).of (Mk.nmB i)=[i]:=by
  show webOf m (Mk.nmB i)=[i];rw[webOf_at m i h.le h12,if_pos hi]
 have hrl:rlOf (webS J m) i=webR J i:=by
  unfold rlOf;show((List.range m).map (webR J)).getD i _=_;rw[List.getD_eq_getElem?_getD,List.getElem?_map,List.getElem?_range hi];rfl
 have hc:cmdsL (webS J m) [i]=[(wCmd,2*i+2)]:=by
  rw[cmdsL,hrl,if_pos (by show 0<1;decide)];rfl
 have hn:needsL (webS J m) [i]=(J i).map Mk.nmB:=by
  unfold needsL;rw[if_pos (show [i].length=1 from rfl)];show(rlOf (webS J m) i).nd=_;rw[hrl];rfl
 unfold nodeF nod0 canB tgB;rw[hof,hc,if_neg (by simp),hn];rfl
theorem fromF_ok {s:St} {us:List (Nat×List Pl.Bs)} (I:Wst→Prop) (hI:∀t x,I t→t.opn.getLast?=some x→(goOnF s fs us t).1=0∧I (goOnF s fs us t).2):∀(n:Nat) (p r:Nat×Wst),fromF s fs us n p=some r→p.1=0→I p.2→r.1=0∧I r.2
 |0,p,r,h,h0,hp=>by
  rw[fromF] at h;split at h
  ·cases h;exact⟨h0,hp⟩
  ·cases h
 |n+1,p,r,h,h0,hp=>by
  rw[fromF] at h;split at h
  ·cases h;exact⟨h0,hp⟩
  ·rename_i q
   have hne:p.2.opn≠[]:=fun e=>q (.inr e)
   cases hl:p.2.opn.getLast? with
   |none=>rw[List.getLast?_eq_none_iff] at hl;exact absurd hl hne
   |some x=>
    obtain⟨a,b⟩:=hI p.2 x hp hl;exact fromF_ok I hI n _ r h a b
structure WbI (J:Nat→List Nat) (m g:Nat) (t:Wst):Prop where
 ix:∃ix:List Nat,t.opn.map (·.1)=ix.map (webN J)∧ix.Pairwise (·<·)∧∀i∈ix,i<m∧Rch J g i
 lk:∀x∈t.opn,x.2≤x.1.needs.length
 one:∀n,flagOf t.sts n=1→∃x∈t.opn,x.1.name=n
 ov:∃ov:List Nat,t.over=ov.map (webN J)∧∀i∈ov,i<m∧Rch J g i
theorem enter_web (h:WbOk J m) (us:List (Nat×List Pl.Bs)) {t:Wst} (ht:WbI J m g t) {j:Nat} (hj:j<m) (hr:Rch J g j) (hlt:∀x∈t.opn,∀i,i<m→x.1=webN J i→i<j):(enterF (webS J m) fs us t (Mk.nmB j)).1=0∧WbI J m g (enterF (webS J m) fs us t (Mk.nmB j)).2:=by
 obtain⟨ix,e1,e2,e3⟩:=ht.ix
 have hmem:∀x∈t.opn,∃i,i<m∧x.1=webN J i:=fun x hx=>by
  have:x.1∈t.opn.map (·.1):=List.mem_map.2 ⟨x,hx,rfl⟩;rw[e1] at this;obtain⟨i,hi,e⟩:=List.mem_map.1 this;exact⟨i,(e3 i hi).1,e.symm⟩
 unfold enterF
 by_cases h2:flagOf t.sts (Mk.nmB j)=2
 ·rw[if_pos h2];exact⟨rfl,ht⟩
 ·rw[if_neg h2]
  have h1:¬flagOf t.sts (Mk.nmB j)=1:=fun q=>by
   obtain⟨x,hx,hxn⟩:=ht.one _ q;obtain⟨i,hi,e⟩:=hmem x hx;have:=hlt x hx i hi e;rw[e] at hxn;have:=Mk.nmB_inj (Nat.lt_of_lt_of_le hi h.le) (Nat.lt_of_lt_of_le hj h.le) hxn;omega
  rw[if_neg h1,web_node h hj,if_neg (by simp)];refine⟨rfl,⟨ix++[j],?_,?_,fun i hi=> ?_⟩,fun x hx=> ?_,fun n hn=> ?_,ht.ov⟩
  ·simp only[List.map_append,e1,List.map_cons,List.map_nil]
  ·rw[List.pairwise_append]
   refine⟨e2,by simp,fun a ha b hb=> ?_⟩;rw[List.mem_singleton.1 hb];have:webN J a∈ix.map (webN J):=List.mem_map.2 ⟨a,ha,rfl⟩;rw[←e1] at this;obtain⟨x,hx,e⟩:=List.mem_map.1 this;exact hlt x hx a (e3 a ha).1 e
  ·rcases List.mem_append.1 hi with q|q
   ·exact e3 i q
   ·rw[List.mem_singleton.1 q];exact⟨hj,hr⟩
  ·rcases List.mem_append.1 hx with q|q
   ·exact ht.lk x q
   ·rw[List.mem_singleton.1 q];exact Nat.zero_le _
  ·have hn' :flagOf (flPut t.sts (Mk.nmB j) 1) n=1:=hn
   rw[flagOf_put] at hn'
   by_cases e:Mk.nmB j=n
   ·exact⟨(webN J j,0),List.mem_append_right _ (List.mem_singleton.2 rfl),e⟩
   ·rw[if_neg e] at hn'
    obtain⟨x,hx,hxn⟩:=ht.one n hn';exact⟨x,List.mem_append_left _ hx,hxn⟩
theorem goOn_web (h:WbOk J m) (us:List (Nat×List Pl.Bs)) {t:Wst} (ht:WbI J m g t) {x:Nod×Nat} (hl:t.opn.getLast?=some x):(goOnF (webS J m) fs us t).1=0∧WbI J m g (goOnF (webS J m) fs us t).2:=by
 obtain⟨ix,e1,e2,e3⟩:=ht.ix;obtain⟨d,hd⟩:=List.getLast?_eq_some_iff.1 hl;have hdl:t.opn.dropLast=d:=by rw[hd,List.dropLast_concat]
 have e1' :=e1;rw[hd,List.map_append] at e1';obtain⟨iy,iz,rfl,f1,f2⟩:=List.map_eq_append_iff.1 e1'.symm
 obtain⟨i,rfl⟩:∃i,iz=[i]:=by
  have:=congrArg List.length f2;simp only[List.length_map,List.length_cons,List.length_nil] at this;exact List.length_eq_one_iff.1 this
 have hxi:x.1=webN J i:=by simpa using f2.symm
 obtain⟨him,hir⟩:=e3 i (List.mem_append_right _ (List.mem_singleton.2 rfl));rw[List.pairwise_append] at e2;have hlkx:=ht.lk x (by rw[hd];exact List.mem_append_right _ (List.mem_singleton.2 rfl));unfold goOnF;rw[hl];simp only[hdl];split
 ·unfold leaveF
  rw[hl];simp only[hdl];obtain⟨ov,o1,o2⟩:=ht.ov;refine⟨trivial,⟨iy,f1.symm,e2.1,fun k hk=>e3 k (List.mem_append_left _ hk)⟩,fun y hy=>ht.lk y (by rw[hd];exact List.mem_append_left _ hy),fun n hn=> ?_,?_⟩
  ·have hn' :flagOf (flPut t.sts x.1.name 2) n=1:=hn
   rw[flagOf_put] at hn';split at hn'
   ·cases hn'
   ·rename_i hne
    obtain⟨y,hy,hyn⟩:=ht.one n hn';rw[hd] at hy
    rcases List.mem_append.1 hy with q|q
    ·exact⟨y,q,hyn⟩
    ·rw[List.mem_singleton.1 q] at hyn
     exact absurd hyn hne
  ·split
   ·exact⟨ov++[i],by rw[List.map_append,o1,hxi];rfl,fun k hk=>by
     rcases List.mem_append.1 hk with q|q
     ·exact o2 k q
     ·rw[List.mem_singleton.1 q];exact⟨him,hir⟩⟩
   ·exact⟨ov,o1,o2⟩
 ·rename_i hq
  have hlt:x.2<x.1.needs.length:=by omega
  have hnl:x.1.needs.length=(J i).length:=by rw[hxi];show((J i).map Mk.nmB).length=_;simp
  have hx2:x.2<(J i).length:=by omega
  have hnd:x.1.needs.getD x.2 []=Mk.nmB (J i)[x.2]:=by
   rw[hxi];show((J i).map Mk.nmB).getD x.2 []=_;rw[List.getD_eq_getElem?_getD,List.getElem?_map,List.getElem?_eq_getElem hx2];rfl
  have hjm:=h.lt i him _ (List.getElem_mem hx2);rw[hnd]
  have ht' :WbI J m g {t with opn:=d++[(x.1,x.2+1)]}:=by
   refine⟨⟨iy++[i],?_,?_,e3⟩,fun y hy=> ?_,fun n hn=> ?_,ht.ov⟩
   ·simp only[List.map_append,List.map_cons,List.map_nil,←f1,hxi]
   ·rw[List.pairwise_append];exact e2
   ·rcases List.mem_append.1 hy with q|q
    ·exact ht.lk y (by rw[hd];exact List.mem_append_left _ q)
    ·rw[List.mem_singleton.1 q];exact hlt
   ·obtain⟨y,hy,hyn⟩:=ht.one n hn
    rw[hd] at hy
    rcases List.mem_append.1 hy with q|q
    ·exact⟨y,List.mem_append_left _ q,hyn⟩
    ·rw[List.mem_singleton.1 q] at hyn
     exact⟨(x.1,x.2+1),List.mem_append_right _ (List.mem_singleton.2 rfl),hyn⟩
  refine enter_web h us ht' hjm.2 (.need hir (List.getElem_mem hx2)) fun y hy k hk he=> ?_
  have hle:k≤i:=by
   rcases List.mem_append.1 hy with q|q
   ·have:y.1∈d.map (·.1):=List.mem_map.2 ⟨y,q,rfl⟩
    rw[←f1] at this;obtain⟨k',hk',e⟩:=List.mem_map.1 this;have e4:=e2.2.2 k' hk' i (List.mem_singleton.2 rfl);rw[he] at e;have e5:Mk.nmB k' =Mk.nmB k:=congrArg Nod.name e;have:=Mk.nmB_inj (Nat.lt_of_lt_of_le (e3 k' (List.mem_append_left _ hk')).1 h.le) (Nat.lt_of_lt_of_le hk h.le) e5;omega
   ·rw[List.mem_singleton.1 q] at he
    have e4:webN J i=webN J k:=hxi.symm.trans he;have e5:Mk.nmB i=Mk.nmB k:=congrArg Nod.name e4;have:=Mk.nmB_inj (Nat.lt_of_lt_of_le him h.le) (Nat.lt_of_lt_of_le hk h.le) e5;omega
  have:=hjm.1;omega
theorem web_walk (h:WbOk J m) (hg:g<m) {us:List (Nat×List Pl.Bs)} {r:Nat×Wst} (hr:FromR (webS J m) fs us (enterF (webS J m) fs us wst0 (Mk.nmB g)) r):r.1=0∧∃ov:List Nat,r.2.over=ov.map (webN J)∧∀i∈ov,i<m∧Rch J g i:=by
 obtain⟨n,hn⟩:=hr;have h0:WbI J m g wst0:=⟨⟨[],rfl,by simp,fun i hi=>(by cases hi)⟩,fun x hx=>(by cases hx),fun n hn=>(by cases hn),⟨[],rfl,fun i hi=>(by cases hi)⟩⟩;obtain⟨a,b⟩:=enter_web (fs:=fs) h us h0 hg .self fun x hx=>by cases hx
 obtain⟨c,d⟩:=fromF_ok (WbI J m g) (fun t x ht hl=>goOn_web h us ht hl) n _ r hn a b;exact⟨c,d.ov⟩
end
structure Sm (A:List Pl.Bs) (q:Cp.Wr):Prop where
 str:StrI A q
 ok:q.failed=false
section
variable {A:List Pl.Bs} {q:Cp.Wr}
theorem not_big {n w:Nat} (h:n<256^w):Cp.big n w=false:=by
 unfold Cp.big;exact decide_eq_false (by omega)
theorem Sm.add (h:Sm A q) {op:Nat} {os:List Nat} (h1:os.getD 0 0<256^wdAt op 0) (h2:os.getD 1 0<256^wdAt op 1):Sm A (addW q op os):=
 ⟨h.str.add _ _,by rw[addW_failed,h.ok,not_big h1,not_big h2];rfl⟩
theorem Sm.putStr (h:Sm A q) {s:Pl.Bs} (hs:s∈A):Sm A (q.str s):=⟨h.str.str hs,by
 unfold Cp.Wr.str;split
 ·exact h.ok
 ·exact h.ok⟩
theorem Sm.num (h:Sm A q) (hA:A.length≤600) (s:Pl.Bs):q.num s<65536:=by
 have h1:=num_le q s;have h2:=nodupU q.strs A h.str.nd h.str.sub;omega
theorem sm_needs (hA:A.length≤600) (fl:Flags) (hf:∀n,flagOf fl n<256) (nm:Nat) (hn:nm<65536):∀(needs:List Pl.Bs) (q:Cp.Wr),Sm A q→(∀n∈needs,n∈A)→Sm A (needs.foldl (staleStep fl nm) q)
 |[],_,h,_=>h
 |n::r,q,h,hs=>by
  refine sm_needs hA fl hf nm hn r _ ?_ fun y hy=>hs y (List.mem_cons_of_mem _ hy)
  unfold staleStep;have a1:Sm A (addW q 4 [flagOf fl n]):=h.add (hf n) (show 0<256^0 by decide);have a2:Sm A (addW (addW q 4 [flagOf fl n]) 5 []):=a1.add (show 0<256^0 by decide) (show 0<256^0 by decide)
  exact((a2.putStr (hs n (List.mem_cons_self ..))).add (op:=3) (os:=[nm,(addW (addW q 4 [flagOf fl n]) 5 []).num n]) (show nm<256^2 from hn) (show _<256^2 from a2.num hA n)).add (show 0<256^0 by decide) (show 0<256^0 by decide)
theorem sm_gives (hA:A.length≤600):∀(cs:List Pl.Bs) (q:Cp.Wr),Sm A q→(∀c∈cs,c∈A)→Sm A (cs.foldl giveStep q)
 |[],_,h,_=>h
 |c::r,q,h,hs=>by
  refine sm_gives hA r _ ?_ fun y hy=>hs y (List.mem_cons_of_mem _ hy)
  unfold giveStep;exact(h.putStr (hs c (List.mem_cons_self ..))).add (show _<256^2 from h.num hA c) (show 0<256^0 by decide)
theorem addW_size (p:Cp.Wr) (op:Nat) (os:List Nat):(addW p op os).code.length=p.code.length+1+wdAt op 0+wdAt op 1:=by
 rw[addW_code,List.length_append,List.length_cons,List.length_append,beB_len _ _ (wdAt_le op 0),beB_len _ _ (wdAt_le op 1)];omega
theorem gives_size:∀(cs:List Pl.Bs) (q:Cp.Wr),(cs.foldl giveStep q).code.length=q.code.length+3*cs.length
 |[],_=>rfl
 |c::r,q=>by
  rw[List.foldl_cons,gives_size r];unfold giveStep;rw[addW_size,str_code];have e1:wdAt 7 0=2:=rfl;have e2:wdAt 7 1=0:=rfl;rw[e1,e2,List.length_cons];omega
theorem sm_at (hA:A.length≤600) (ss:List Stp) (hl:ss.length≤100) (hc:∀x∈ss,x.cmds.length≤500) (hs:∀x∈ss,x.name∈A∧(∀n∈x.needs,n∈A)∧∀c∈x.cmds,c∈A):∀i,i≤ss.length→Sm A (writeAt ss i).1∧∀x∈(writeAt ss i).2,x.2<256
 |0,_=>⟨⟨⟨List.nodup_nil,fun x hx=>by cases hx⟩,rfl⟩,fun x hx=>by cases hx⟩
 |i+1,hi=>by
  have hlt:i<ss.length:=by omega
  obtain⟨ih,ihf⟩:=sm_at hA ss hl hc hs i (by omega);obtain⟨h1,h2,h3⟩:=hs ss[i] (List.getElem_mem hlt);have h4:=hc ss[i] (List.getElem_mem hlt);have hfl:=flPut_mem ss[i].name i 256 (by omega) (writeAt ss i).2 ihf;have hfo:∀n,flagOf (flPut (writeAt ss i).2 ss[i].name i) n<256:=fun n=>flagOf_lt n 256 (by decide) _ hfl
  rw[writeAt_next ss i hlt];refine⟨?_,hfl⟩;simp only
  have hst:Sm A (staleW (flPut (writeAt ss i).2 ss[i].name i) (writeAt ss i).1 ss[i].ph ss[i].name ss[i].needs):=by
   unfold staleW;split
   ·exact ih.add (show 1<256^1 by decide) (show 0<256^0 by decide)
   ·exact sm_needs hA _ hfo _ (ih.num hA _) _ _ ((ih.putStr h1).add (show _<256^2 from ih.num hA _) (show 0<256^0 by decide)) h2
  generalize staleW (flPut (writeAt ss i).2 ss[i].name i) (writeAt ss i).1 ss[i].ph ss[i].name ss[i].needs=p at*
  have hb:Sm A (blockW (addW p 6 []) ss[i].cmds i):=by
   unfold blockW;exact(sm_gives hA _ _ (hst.add (op:=6) (os:=[]) (show 0<256^2 by decide) (show 0<256^0 by decide)) h3).add (show i<256^1 by omega) (show 0<256^0 by decide)
  have hz:(blockW (addW p 6 []) ss[i].cmds i).code.length=p.code.length+3+3*ss[i].cmds.length+2:=by
   unfold blockW;rw[addW_size,gives_size,addW_size];have e1:wdAt 6 0=2:=rfl;have e2:wdAt 6 1=0:=rfl;have e3:wdAt 8 0=1:=rfl;have e4:wdAt 8 1=0:=rfl;rw[e1,e2,e3,e4]
  unfold skipW fixW;refine⟨⟨hb.str.nd,hb.str.sub⟩,?_⟩;simp only;rw[hb.ok,hz,not_big (show _<256^2 by omega)];rfl
theorem plan_some {ss:List Stp} (hl:ss.length≤100) (hk:cmdsN ss≤500) (hb:∀x∈ss,StB 64000 x) (hn:∀x∈ss,∀n∈x.needs,∃y∈ss,y.name=n):∃p,planW ss=some p:=by
 have hA:(ss.map (·.name)++ss.flatMap (·.cmds)).length≤600:=by
  rw[List.length_append,List.length_map,flat_cmds];omega
 obtain⟨h1,-⟩:=sm_at hA ss hl (fun x hx=>(hb x hx).cmds) (fun x hx=>⟨List.mem_append_left _ (List.mem_map.2 ⟨x,hx,rfl⟩),fun n hn' =>(by
  obtain⟨y,a,b⟩:=hn x hx n hn'
  exact List.mem_append_left _ (List.mem_map.2 ⟨y,a,b⟩)),fun c hc=>List.mem_append_right _ (List.mem_flatMap.2 ⟨x,hx,hc⟩)⟩) ss.length (Nat.le_refl _)
 have h2:=nodupU _ _ h1.str.nd h1.str.sub;unfold planW textW;generalize (writeAt ss ss.length).1=w at*
 have hf:failW w w.strs.length=false:=by
  unfold failW;rw[h1.ok,not_big (show _<256^2 by omega),List.take_length];simp only[Bool.or_self,Bool.false_or];rw[List.any_eq_false];intro s hs
  have hsl:s.length<65536:=by
   rcases List.mem_append.1 (h1.str.sub s hs) with q|q
   ·obtain⟨x,hx,rfl⟩:=List.mem_map.1 q
    have:=(hb x hx).name;omega
   ·obtain⟨x,hx,hc⟩:=List.mem_flatMap.1 q
    have:=(hb x hx).cw s hc;omega
  rw[not_big (show s.length<256^2 from hsl)];decide
 rw[hf];have hd:decide (1000<w.strs.length)=false:=decide_eq_false (by omega);rw[hd];exact⟨_,rfl⟩
end
end Go.Proofs.YtjelacjggijmfaaGreatDoor
