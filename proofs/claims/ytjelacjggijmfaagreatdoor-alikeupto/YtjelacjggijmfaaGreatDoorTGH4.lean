/-
  The program's machine does an instruction.
-/
import Derived.Test.YtjelacjggijmfaaGreatDoorTGG9
import Derived.Test.YtjelacjggijmfaaGreatDoorTPS3
import Derived.Test.YtjelacjggijmfaaGreatDoorTSP9
set_option maxRecDepth 20000
set_option maxHeartbeats 4000000
namespace Go.Proofs.YtjelacjggijmfaaGreatDoor
open Go.RowKit Go.MapKept Go.ChangeMaps Go.Maps
theorem countFrom_le (c:UInt8):∀(f:Nat) (s:Pl.Bs),Lib.countFrom [c] f s≤s.count c
 |0,_=>Nat.zero_le _
 |f+1,s=>by
  rw[Lib.countFrom];split
  ·exact Nat.zero_le _
  ·rename_i h
   rcases Lib.index_spec s [c] with⟨h1,_⟩|⟨i,h1,_,h3,_⟩
   ·rw[h1] at h;exact absurd rfl h
   ·have ih:=countFrom_le c f (s.drop ((Lib.index s [c]).toNat+[c].length))
    rw[h1] at ih⊢;simp only[Int.toNat_natCast,List.length_cons,List.length_nil,Nat.zero_add] at ih⊢
    have hd:∃t,s.drop i=c::t:=by
     unfold Lib.occAt at h3;cases hs:s.drop i with
     |nil=>rw[hs] at h3;cases h3
     |cons x t=>
      rw[hs] at h3;simp only[List.isPrefixOf,Bool.and_true,beq_iff_eq] at h3;exact⟨t,by rw[h3]⟩
    obtain⟨t,ht⟩:=hd;have e2:s.drop (i+1)=t:=by rw[←List.drop_drop,ht];rfl
    have e3:s.count c=(s.take i).count c+(s.drop i).count c:=by rw[←List.count_append,List.take_append_drop]
    rw[ht,List.count_cons_self] at e3;rw[e2] at ih⊢;omega
theorem replaceK_len (old new:Pl.Bs):∀(k:Nat) (s:Pl.Bs),(Lib.replaceK old new k s).length≤s.length+k*new.length
 |0,s=>by rw[Lib.replaceK];omega
 |k+1,s=>by
  rw[Lib.replaceK];split
  ·omega
  ·have ih:=replaceK_len old new k (s.drop ((Lib.index s old).toNat+old.length))
   have h1:(s.drop ((Lib.index s old).toNat+old.length)).length+(s.take (Lib.index s old).toNat).length≤s.length:=by
    rw[List.length_drop,List.length_take];omega
   rw[List.length_append,List.length_append,Nat.succ_mul];omega
theorem fill_len {n stem:Pl.Bs} (h:placesB n=false):(fillB n stem).length≤n.length+stem.length:=by
 unfold placesB Lib.countByte at h;have h1:=of_decide_eq_false h;unfold fillB Lib.replaceAll Lib.replace;split
 ·omega
 ·have hk:Lib.replaceNum n [37] (-1)≤1:=by
   unfold Lib.replaceNum;rw[if_pos (.inl (by decide))];exact Nat.le_trans (countFrom_le 37 _ n) (by omega)
  have h2:=replaceK_len [37] stem (Lib.replaceNum n [37] (-1)) n;have h3:=Nat.mul_le_mul_right stem.length hk;omega
structure Pcs (s:St):Prop where
 one:∀r∈s.rules,∀n∈r.nd,placesB n=false
 ol:∀name,∀i∈s.of name,i<s.rules.length
 pl:∀i∈s.pats,i<s.rules.length
theorem ofAdd_in (i:Nat) (n:Pl.Bs):∀(tg:List Pl.Bs) (s:St),∀j∈(tg.foldl (ofAdd i) s).of n,j∈s.of n∨j=i
 |[],s,j,h=> .inl h
 |t::r,s,j,h=>by
  rw[List.foldl_cons] at h
  rcases ofAdd_in i n r (ofAdd i s t) j h with q|q
  ·have q' :j∈ofPut s.of t (s.of t++[i]) n:=q
   unfold ofPut at q';split at q'
   ·rename_i e
    rcases List.mem_append.1 q' with z|z
    ·exact .inl (by first|(rw [e];exact z)|(rw [←e];exact z))
    ·exact .inr (List.mem_singleton.1 z)
   ·exact .inl q'
  ·exact .inr q
theorem Pcs.add {s:St} (h:Pcs s) (tg nd:List Pl.Bs) (hn:∀n∈nd,placesB n=false):Pcs (addF s tg nd).2:=by
 have h1:∀r∈s.rules++[(⟨tg,onceB nd [],[]⟩:Rl)],∀n∈r.nd,placesB n=false:=fun r hr n hm=>by
  rcases List.mem_append.1 hr with q|q
  ·exact h.one r q n hm
  ·rw[List.mem_singleton.1 q] at hm
   rcases(onceB_len nd []).2 n hm with z|z
   ·exact hn n z
   ·cases z
 unfold addF;split
 ·exact⟨h.one,h.ol,h.pl⟩
 ·split
  ·refine⟨h1,fun name i hi=> ?_,fun i hi=> ?_⟩
   ·have:=h.ol name i hi
    simp only[List.length_append,List.length_cons,List.length_nil];omega
   ·rcases List.mem_append.1 hi with q|q
    ·have:=h.pl i q
     simp only[List.length_append,List.length_cons,List.length_nil];omega
    ·rw[List.mem_singleton.1 q]
     simp
  ·have key:∀f:Pl.Bs,Pcs (tg.foldl (ofAdd s.rules.length) {s with rules:=s.rules++[⟨tg,onceB nd [],[]⟩],first:=f}):=fun f=>by
    obtain⟨_,e2,e3,_⟩:=ofAdd_fold s.rules.length tg {s with rules:=s.rules++[⟨tg,onceB nd [],[]⟩],first:=f};refine⟨by rw[e2];exact h1,fun name i hi=> ?_,fun i hi=> ?_⟩
    ·rw[e2]
     simp only[List.length_append,List.length_cons,List.length_nil]
     rcases ofAdd_in _ name tg _ i hi with q|q
     ·have:=h.ol name i q
      omega
     ·omega
    ·rw[e2]
     rw[e3] at hi;have:=h.pl i hi;simp only[List.length_append,List.length_cons,List.length_nil];omega
   unfold explicitF;simp only;split
   ·exact key _
   ·exact key s.first
theorem pcs_kept:LnKept Pcs where
 assign s l h:=by
  unfold assignF;split<;>exact⟨h.one,h.ol,h.pl⟩
 command s op l h:=by
  unfold commandF;split
  ·exact h
  ·split
   ·exact h
   ·rename_i i _ r hr
    split
    ·exact h
    ·refine⟨fun r' hr' n hn=> ?_,fun name j hj=> ?_,fun j hj=> ?_⟩
     ·rcases List.mem_or_eq_of_mem_set hr' with q|q
      ·exact h.one r' q n hn
      ·rw[q] at hn
       exact h.one r (List.mem_of_getElem? hr) n hn
     ·have:=h.ol name j hj
      simpa using this
     ·have:=h.pl j hj
      simpa using this
 rule s l h:=by
  unfold ruleF;split
  ·exact h
  ·split
   ·exact h
   ·split
    ·exact h
    ·rename_i hs
     split
     ·exact h
     ·refine Pcs.add (s:={s with n:=s.n+1}) ⟨h.one,h.ol,h.pl⟩ _ _ fun n hn=> ?_
      unfold sidesB at hs;split at hs
      ·exact absurd rfl hs
      ·rename_i q
       have:¬(Mk.words (expE s.names l.right).txt).any placesB=true:=fun e=>q (.inr (.inr e))
       rw[Bool.not_eq_true] at this;have:=List.any_eq_false.1 this n hn
       simpa using this
 ctr s a b h:=⟨h.one,h.ol,h.pl⟩
theorem pcs_book (fs:List Pl.File) (path:Pl.Bs):Pcs (bookF fs path).2.2:=bookF_kept pcs_kept ⟨fun _ hr=>(by cases hr),fun _ _ hi=>(by cases hi),fun _ hi=>(by cases hi)⟩ path
section
variable {s:St} {fs:List Pl.File} {k:Nat}
theorem need_len (hok:Ok s k) (ht:Tgs s) (hp:Pcs s) {name y:Pl.Bs} (hy:y∈(nodeF s fs (usL s fs s.pats) name).1.needs):y.length≤2000∨((∃f∈fs,f.path=y)∧y.length≤name.length+2000):=by
 have hN:∀z∈needsL s (s.of name),z.length≤2000:=fun z hz=>by
  unfold needsL at hz;split at hz
  ·rename_i h1
   have hx:=hp.ol name;generalize s.of name=xs at*
   match xs,h1,hx,hz with
   |[i],_,hx,hz=>exact(hok.rs _ (rlOf_mem (hx i (List.mem_cons_self ..)))).nw z hz
  ·rcases(onceB_len _ _).2 z hz with q|q
   ·obtain⟨u,h1,h2⟩:=List.mem_flatten.1 q
    obtain⟨i,h3,rfl⟩:=List.mem_map.1 h1;exact(hok.rs _ (rlOf_mem (hp.ol name i h3))).nw z h2
   ·cases q
 unfold nodeF at hy;split at hy
 ·split at hy
  ·rename_i i stem e
   rcases(onceB_len _ _).2 y hy with q|q
   ·rcases List.mem_append.1 q with q|q
    ·obtain⟨n,hn,rfl⟩:=List.mem_map.1 q
     obtain⟨x,h1,h2,h3⟩:=fitL_all e;obtain⟨-,hst⟩:=fitL_mem e;unfold usL at h1;obtain⟨j,h4,rfl⟩:=List.mem_map.1 h1;simp only at h2 h3;subst h2;have hj:=hp.pl j (List.mem_filter.1 h4).1;have hnl:=(hok.rs _ (rlOf_mem hj)).nw n hn
     by_cases hpl:placeB n=true
     ·have h5:=List.all_eq_true.1 h3 n (List.mem_filter.2 ⟨hn,hpl⟩)
      have h6:=fill_len (stem:=stem) (hp.one _ (rlOf_mem hj) n hn);unfold thereB at h5;rw[Bool.or_eq_true] at h5
      rcases h5 with h5|h5
      ·refine .inr ⟨?_,by omega⟩
       cases hl:Pl.look fs (fillB n stem) with
       |none=>rw[hl] at h5;cases h5
       |some f=>
        unfold Pl.look at hl;exact⟨f,List.mem_of_find?_eq_some hl,by simpa using List.find?_some hl⟩
      ·unfold tgB at h5
       have h7:=of_decide_eq_true h5;obtain⟨r,h8,h9⟩:=ht.tg _ (fun e=>by rw[e] at h7;cases h7);exact .inl ((hok.rs r h8).tw _ h9)
     ·rw[fill_none (by simpa using hpl)]
      exact .inl hnl
    ·exact .inl (hN y q)
   ·cases q
  ·exact .inl (hN y hy)
 ·exact .inl (hN y hy)
def Stair (fs:List Pl.File) (y:Pl.Bs):Prop:=∀T,2000≤T→T<y.length→∃f∈fs,T<f.path.length∧f.path.length≤T+2000
theorem stair_need (hok:Ok s k) (ht:Tgs s) (hp:Pcs s) {name y:Pl.Bs} (hn:Stair fs name) (hy:y∈(nodeF s fs (usL s fs s.pats) name).1.needs):Stair fs y:=fun T h1 h2=>by
 by_cases h3:T<name.length
 ·exact hn T h1 h3
 ·rcases need_len hok ht hp hy with q|⟨⟨f,q1,q2⟩,q3⟩
  ·omega
  ·exact⟨f,q1,by rw[q2];omega,by rw[q2];omega⟩
structure StR5 (s:St) (fs:List Pl.File) (us:List (Nat×List Pl.Bs)) (t:Wst):Prop where
 op:∀x∈t.opn,x.1=(nodeF s fs us x.1.name).1∧Stair fs x.1.name
 ov:∀x∈t.over,Stair fs x.name
theorem enter_st {us:List (Nat×List Pl.Bs)} {t:Wst} {name:Pl.Bs} (h:StR5 s fs us t) (hn:Stair fs name):StR5 s fs us (enterF s fs us t name).2:=by
 unfold enterF;split
 ·exact h
 ·split
  ·exact h
  ·split
   ·exact h
   ·refine⟨fun x hx=> ?_,h.ov⟩
    rcases List.mem_append.1 hx with q|q
    ·exact h.op x q
    ·rw[List.mem_singleton.1 q]
     simp only;rw[nodeF_name];exact⟨rfl,hn⟩
theorem goOn_st (hok:Ok s k) (ht:Tgs s) (hp:Pcs s) {t:Wst} {x:Nod×Nat} (h:StR5 s fs (usL s fs s.pats) t) (hl:t.opn.getLast?=some x):StR5 s fs (usL s fs s.pats) (goOnF s fs (usL s fs s.pats) t).2:=by
 have hx:x∈t.opn:=List.mem_of_getLast? hl;have hdl:∀y∈t.opn.dropLast,y∈t.opn:=fun y hy=>List.dropLast_subset _ hy
 unfold goOnF;rw[hl];simp only;split
 ·unfold leaveF
  rw[hl];refine⟨fun y hy=>h.op y (hdl y hy),fun y hy=> ?_⟩;simp only at hy;split at hy
  ·rcases List.mem_append.1 hy with q|q
   ·exact h.ov y q
   ·rw[List.mem_singleton.1 q]
    exact(h.op x hx).2
  ·exact h.ov y hy
 ·rename_i hne
  have h1:StR5 s fs (usL s fs s.pats) {t with opn:=t.opn.dropLast++[(x.1,x.2+1)]}:=by
   refine⟨fun y hy=> ?_,h.ov⟩
   rcases List.mem_append.1 hy with q|q
   ·exact h.op y (hdl y q)
   ·rw[List.mem_singleton.1 q]
    exact h.op x hx
  refine enter_st h1 ?_
  by_cases hi:x.2<x.1.needs.length
  ·have hm:x.1.needs.getD x.2 []∈x.1.needs:=by
    rw[List.getD_eq_getElem?_getD,List.getElem?_eq_getElem hi];exact List.getElem_mem hi
   have e:=(h.op x hx).1;have hm2:x.1.needs.getD x.2 []∈(nodeF s fs (usL s fs s.pats) x.1.name).1.needs:=by rw[←e];exact hm
   exact stair_need hok ht hp (h.op x hx).2 hm2
  ·rw[List.getD_eq_getElem?_getD,List.getElem?_eq_none (by omega)]
   exact fun T _ h2=>absurd h2 (Nat.not_lt_zero _)
end
def sumTo (B:Nat):List Pl.File→Nat
 |[]=>0
 |f::r=>(if f.path.length≤B then f.path.length else 0)+sumTo B r
def sumP:List Pl.File→Nat
 |[]=>0
 |f::r=>f.path.length+sumP r
theorem sumTo_le (B:Nat):∀fs,sumTo B fs≤sumP fs
 |[]=>Nat.le_refl _
 |f::r=>by
  have:=sumTo_le B r;rw[sumTo,sumP];split<;>omega
theorem sumTo_mono (B:Nat):∀fs,sumTo B fs≤sumTo (B+2000) fs
 |[]=>Nat.le_refl _
 |f::r=>by
  have:=sumTo_mono B r;rw[sumTo,sumTo];split<;>split<;>omega
theorem sumTo_up (B:Nat):∀fs:List Pl.File,(∃f∈fs,B<f.path.length∧f.path.length≤B+2000)→sumTo B fs+(B+1)≤sumTo (B+2000) fs
 |[],h=>by obtain⟨_,h,_⟩:=h;cases h
 |f::r,⟨g,h1,h2,h3⟩=>by
  rw[sumTo,sumTo]
  rcases List.mem_cons.1 h1 with q|q
  ·have:=sumTo_mono B r
   subst q;rw[if_neg (by omega),if_pos h3];omega
  ·have:=sumTo_up B r ⟨g,q,h2,h3⟩
   split<;>split<;>omega
theorem stair_sum {fs:List Pl.File} {y:Pl.Bs} (h:Stair fs y):∀n:Nat,2000*n<y.length→1000*(n*n)+1001*n≤sumTo (2000*(n+1)) fs
 |0,_=>by omega
 |n+1,hn=>by
  have ih:=stair_sum h n (by omega);have:=sumTo_up (2000*(n+1)) fs (h (2000*(n+1)) (by omega) hn);rw[show 2000*(n+1)+2000=2000*(n+1+1) by omega] at this
  have e:(n+1)*(n+1)=n*n+2*n+1:=by
   rw[Nat.mul_add,Nat.mul_one,Nat.add_mul];omega
  rw[e];generalize sumTo (2000*(n+1)) fs=X at ih this;generalize sumTo (2000*(n+1+1)) fs=Y at this⊢;generalize n*n=Z at*;omega
theorem nmb_any {s:St} {fs:List Pl.File} {k:Nat} (hok:Ok s k) (ht:Tgs s) (hp:Pcs s) (hs:sumP fs≤1048576) (g:Pl.Bs):NmB s fs g 64000:=fun hg r hr h0 _ x hx=>by
 have h1:Stair fs g:=fun T a b=>by omega
 obtain⟨n,hn⟩:=hr;have:=fromF_keep (StR5 s fs (usL s fs s.pats)) (fun t x h hl _=>goOn_st hok ht hp h hl) n _ r hn (fun _=>enter_st ⟨fun _ h=>(by cases h),fun _ h=>(by cases h)⟩ h1) h0;have h2:=this.ov x hx
 by_cases h3:64000<x.name.length
 ·obtain⟨n,hn⟩:∃n:Nat,n=32:=⟨32,rfl⟩
  have h4:=stair_sum h2 n (by omega);have h5:=sumTo_le (2000*(n+1)) fs;generalize sumTo (2000*(n+1)) fs=X at h4 h5;have h6:n*n=1024:=by rw[hn]
  omega
 ·omega
def wt (s:Pl.Bs):Nat:=2+s.length
def wts (l:List Pl.Bs):Nat:=(l.map wt).sum
theorem wts_append (a b:List Pl.Bs):wts (a++b)=wts a+wts b:=by unfold wts;rw[List.map_append,List.sum_append]
theorem strsW_wts:∀l:List Pl.Bs,(strsW l).length=wts l
 |[]=>rfl
 |s::r=>by
  rw[strsW_cons,strsW_wts r];unfold wts wt;simp
theorem wts_erase {x:Pl.Bs}:∀{l:List Pl.Bs},x∈l→wts l=wt x+wts (l.erase x)
 |[],h=>by cases h
 |y::r,h=>by
  by_cases e:y=x
  ·subst e
   rw[List.erase_cons_head];unfold wts;simp
  ·have hr:x∈r:=(List.mem_cons.1 h).resolve_left (fun q=>e q.symm)
   rw[List.erase_cons_tail (by simpa using e)];have ih:=wts_erase hr;unfold wts at*;simp only[List.map_cons,List.sum_cons];omega
theorem wts_sub:∀(a b:List Pl.Bs),a.Nodup→(∀x∈a,x∈b)→wts a≤wts b
 |[],b,_,_=>by unfold wts;simp
 |x::r,b,hd,hs=>by
  rw[List.nodup_cons] at hd;have hx:=hs x (List.mem_cons_self ..);have ih:=wts_sub r (b.erase x) hd.2 fun y hy=>(List.mem_erase_of_ne (fun (e:y=x)=>hd.1 (e▸hy))).2 (hs y (List.mem_cons_of_mem _ hy))
  have e:=wts_erase hx;unfold wts at*;simp only[List.map_cons,List.sum_cons];omega
theorem wts_le (P:Nat):∀l:List Pl.Bs,(∀x∈l,x.length≤P)→wts l≤l.length*(P+2)
 |[],_=>by unfold wts;simp
 |x::r,h=>by
  have ih:=wts_le P r fun y hy=>h y (List.mem_cons_of_mem _ hy)
  have h1:=h x (List.mem_cons_self ..);unfold wts wt at*;simp only[List.map_cons,List.sum_cons,List.length_cons,Nat.succ_mul];omega
structure StrI (A:List Pl.Bs) (q:Cp.Wr):Prop where
 nd:q.strs.Nodup
 sub:∀x∈q.strs,x∈A
theorem StrI.add {A:List Pl.Bs} {q:Cp.Wr} (h:StrI A q) (op:Nat) (os:List Nat):StrI A (addW q op os):=⟨by rw[addW_strs];exact h.nd,by rw[addW_strs];exact h.sub⟩
theorem StrI.str {A:List Pl.Bs} {q:Cp.Wr} (h:StrI A q) {s:Pl.Bs} (hs:s∈A):StrI A (q.str s):=by
 unfold Cp.Wr.str;cases hf:q.strs.findIdx? (fun x=>x==s) with
 |some i=>exact h
 |none=>
  have hn:s∉q.strs:=fun hm=>by
   have:=List.findIdx?_eq_none_iff.1 hf s hm;simp at this
  refine⟨?_,fun x hx=> ?_⟩
  ·show(q.strs++[s]).Nodup
   rw[List.nodup_append];exact⟨h.nd,by simp,fun a ha b hb e=>hn (by rw[List.mem_singleton.1 hb] at e;rw[←e];exact ha)⟩
  ·rcases List.mem_append.1 hx with e|e
   ·exact h.sub x e
   ·rw[List.mem_singleton.1 e];exact hs
theorem strI_needs {A:List Pl.Bs} (fl:Flags) (nm:Nat):∀(needs:List Pl.Bs) (q:Cp.Wr),StrI A q→(∀n∈needs,n∈A)→StrI A (needs.foldl (staleStep fl nm) q)
 |[],_,h,_=>h
 |n::r,q,h,hs=>strI_needs fl nm r _ (by
  unfold staleStep
  exact((((h.add _ _).add _ _).str (hs n (List.mem_cons_self ..))).add _ _).add _ _) fun y hy=>hs y (List.mem_cons_of_mem _ hy)
theorem strI_gives {A:List Pl.Bs}:∀(cs:List Pl.Bs) (q:Cp.Wr),StrI A q→(∀c∈cs,c∈A)→StrI A (cs.foldl giveStep q)
 |[],_,h,_=>h
 |c::r,q,h,hs=>strI_gives r _ (by
  unfold giveStep
  exact(h.str (hs c (List.mem_cons_self ..))).add _ _) fun y hy=>hs y (List.mem_cons_of_mem _ hy)
theorem strI_at {A:List Pl.Bs} (ss:List Stp) (hs:∀x∈ss,x.name∈A∧(∀n∈x.needs,n∈A)∧∀c∈x.cmds,c∈A):∀i,i≤ss.length→StrI A (writeAt ss i).1
 |0,_=>⟨List.nodup_nil,fun x hx=>by cases hx⟩
 |i+1,hi=>by
  have hl:i<ss.length:=by omega
  have ih:=strI_at ss hs i (by omega);obtain⟨h1,h2,h3⟩:=hs ss[i] (List.getElem_mem hl);rw[writeAt_next ss i hl];simp only
  have hst:StrI A (staleW (flPut (writeAt ss i).2 ss[i].name i) (writeAt ss i).1 ss[i].ph ss[i].name ss[i].needs):=by
   unfold staleW;split
   ·exact ih.add _ _
   ·exact strI_needs _ _ _ _ ((ih.str h1).add _ _) h2
  have hb:StrI A (blockW (addW (staleW (flPut (writeAt ss i).2 ss[i].name i) (writeAt ss i).1 ss[i].ph ss[i].name ss[i].needs) 6 []) ss[i].cmds i):=by
   unfold blockW;exact(strI_gives _ _ (hst.add _ _) h3).add _ _
  exact⟨hb.nd,hb.sub⟩
def cmdsN:List Stp→Nat
 |[]=>0
 |x::r=>x.cmds.length+cmdsN r
theorem cmdsN_append (a b:List Stp):cmdsN (a++b)=cmdsN a+cmdsN b:=by
 induction a with
 |nil=>simp[cmdsN]
 |cons x r ih=>rw[List.cons_append,cmdsN,cmdsN,ih];omega
theorem cSz (F K:Pl.Bs→Nat) (x:Stp) (i:Nat):(nodeC F K x i).length≤8+9*x.needs.length+3*x.cmds.length:=by
 have h1:∀needs:List Pl.Bs,(needs.flatMap (needC F K x.name)).length=9*needs.length:=fun needs=>by
  induction needs with
  |nil=>rfl
  |cons n r ih=>rw[List.flatMap_cons,List.length_append,ih,List.length_cons];show 9+_=_;omega
 have h2:∀cmds:List Pl.Bs,(givesC K cmds).length=3*cmds.length:=fun cmds=>by
  induction cmds with
  |nil=>rfl
  |cons c r ih=>
   have e:givesC K (c::r)=cGive (K c)++givesC K r:=by unfold givesC;rw[List.flatMap_cons]
   rw[e,List.length_append,ih,List.length_cons];show 3+_=_;omega
 unfold nodeC preC bodyC;rw[List.length_append,List.length_append,List.length_append,h2];have h3:(cSet i).length=2:=rfl;have h4:∀n,(cSkip n).length=3:=fun _=>rfl
 rw[h3,h4];split
 ·simp only[List.length_cons,List.length_nil];omega
 ·rw[List.length_append,h1]
  have h5:(cAbs (K x.name)).length=3:=rfl;rw[h5];omega
theorem allC_len (F:Nat→Pl.Bs→Nat) (K:Pl.Bs→Nat):∀(ss:List Stp) (i:Nat),(∀x∈ss,x.needs.length≤100)→(allC F K ss i).length≤908*ss.length+3*cmdsN ss
 |[],_,_=>Nat.le_refl _
 |x::r,i,h=>by
  have ih:=allC_len F K r (i+1) fun y hy=>h y (List.mem_cons_of_mem _ hy)
  have h1:=cSz (F i) K x i;have h2:=h x (List.mem_cons_self ..);rw[allC,List.length_append,cmdsN,List.length_cons];omega
theorem flat_cmds:∀ss:List Stp,(ss.flatMap (·.cmds)).length=cmdsN ss
 |[]=>rfl
 |x::r=>by rw[List.flatMap_cons,List.length_append,flat_cmds r,cmdsN]
theorem plan_len {ss:List Stp} {p:Pl.Bs} (h:planW ss=some p) (hl:ss.length≤100) (hk:cmdsN ss≤500) (hb:∀x∈ss,StB 64000 x) (hn:∀x∈ss,∀n∈x.needs,∃y∈ss,y.name=n):p.length≤8388608:=by
 have hs:=strI_at (A:=ss.map (·.name)++ss.flatMap (·.cmds)) ss (fun x hx=>⟨List.mem_append_left _ (List.mem_map.2 ⟨x,hx,rfl⟩),fun n hn' =>(by
  obtain⟨y,h1,h2⟩:=hn x hx n hn'
  exact List.mem_append_left _ (List.mem_map.2 ⟨y,h1,h2⟩)),fun c hc=>List.mem_append_right _ (List.mem_flatMap.2 ⟨x,hx,hc⟩)⟩) ss.length (Nat.le_refl _)
 unfold planW textW at h;generalize hw:(writeAt ss ss.length).1=w at h hs;split at h
 ·cases h
 ·rename_i hq
  cases h;rw[Bool.not_eq_true,Bool.or_eq_false_iff] at hq;obtain⟨hf,-⟩:=hq;unfold failW at hf;rw[Bool.or_eq_false_iff,Bool.or_eq_false_iff] at hf;obtain⟨g1,-⟩:=write_good (T:=w.strs) ss ss.length (Nat.le_refl _) (by rw[hw];exact⟨List.prefix_refl _,hf.1.1⟩);rw[hw,List.take_length] at g1;have l1:=allC_len (fOf ss) (kOf w.strs) ss 0 fun x hx=>(hb x hx).needs
  have l2:=wts_sub _ _ hs.nd hs.sub;rw[wts_append] at l2
  have l3:=wts_le 64000 (ss.map (·.name)) fun y hy=>by
   obtain⟨x,hx,rfl⟩:=List.mem_map.1 hy;exact(hb x hx).name
  have l4:=wts_le 2000 (ss.flatMap (·.cmds)) fun y hy=>by
   obtain⟨x,hx,hc⟩:=List.mem_flatMap.1 hy;exact(hb x hx).cw y hc
  rw[List.length_map] at l3;rw[flat_cmds] at l4;have m3:=Nat.mul_le_mul_right (64000+2) hl;have m4:=Nat.mul_le_mul_right (2000+2) hk;unfold outW;rw[List.take_length,List.length_append,List.length_append,List.length_append,strsW_wts,g1];have e2:(Cp.beB w.strs.length 2).length=2:=rfl;rw[e2];simp only[List.length_cons,List.length_nil];omega
end Go.Proofs.YtjelacjggijmfaaGreatDoor
namespace Go.Proofs.YtjelacjggijmfaaGreatDoor
open Go.RowKit Go.MapKept Go.ChangeMaps Go.Maps
attribute [local go_sem↓] Go.wp_at_zero Go.wp_at_succ
def insL (op at_ nx F G:Nat):List Value:=[.int .u8 op,.int .i64 at_,.int .i64 nx,.int .i64 F,.int .i64 G]
section
variable {w Z:World} {B bm bx bf bi:Nat} {ap:Option Addr} {cp:Nat} {ss:List Pl.Bs} {ve:Value} {ef:List Pl.Eff} {vs vg vs' vg' :Value} {st:List Bool} {fl:Nat→Bool} {go:Nat} {X:Pl.Wd}
theorem MM.far (h:MM w B bm bx bf bi ap cp ss ve ef vs vg st fl go X) {W:World} {N:Nat} {t:TypeId} {vs0:List Value} (hN:w.heap.size≤N) (hr:Row W N t vs0) (ht:MTn bm bx bf vs vg vs' vg' W Z):Row Z N t vs0:=by
 have l1:=h.lm;have l2:=h.lx;have l3:=h.lf;have l5:=h.lw;refine hr.tn ht.tn (fun e=> ?_)
 rcases e with e|e|e|e|e
 ·omega
 ·omega
 ·omega
 ·have:=(h.stack.lt N e.symm).2;omega
 ·have:=(h.given.lt N e.symm).2;omega
end
theorem do1_any (at_ nx F G:Nat) (B bm bx bf bi:Nat) (ap:Option Addr) (cp:Nat) (ss:List Pl.Bs) (ve:Value) (ef:List Pl.Eff) (vs vg:Value) (st:List Bool) (fl:Nat→Bool) (go:Nat) (X:Pl.Wd) (w:World) (h:MM w B bm bx bf bi ap cp ss ve ef vs vg st fl go X) (hst:st.length≤18) (hF:F≤1):
 Calls Tryz.prog 133 #[.pointer (some ⟨bm,0,none⟩),.agg #[.int .u8 1,.int .i64 at_,.int .i64 nx,.int .i64 F,.int .i64 G]] w fun e w' =>e= .returned (.tuple #[])∧∃vs' vg',MM w' B bm bx bf bi ap cp ss ve ef vs' vg' (st++[F==1]) fl go X∧MTn bm bx bf vs vg vs' vg' w w' :=by
 have hbw:Below w.heap.size w (w.alloc (.cells #[.int .u8 1,.int .i64 at_,.int .i64 nx,.int .i64 F,.int .i64 G] 254)):=(Below.refl _ w).alloc (Nat.le_refl _) _;have HM0:=hide (h.later hbw);have HT0:Hid (MTn bm bx bf vs vg vs vg w (w.alloc (.cells #[.int .u8 1,.int .i64 at_,.int .i64 nx,.int .i64 F,.int .i64 G] 254))):=MTn.later hbw
 have HR0:Hid (Row (w.alloc (.cells #[.int .u8 1,.int .i64 at_,.int .i64 nx,.int .i64 F,.int .i64 G] 254)) w.heap.size 254 (insL 1 at_ nx F G)):=Row.new w 254 [.int .u8 1,.int .i64 at_,.int .i64 nx,.int .i64 F,.int .i64 G];have hF2:F=0∨F=1:=by omega
 have CP:=hide (fun x=>push_any x _ _ _ _ _ _ _ _ _ _ _ _ _ _ _ _ _ (uh HM0) (by omega:st.length≤20));clear h hbw
 rcases hF2 with rfl|rfl
 ·go_enter Tryz.func133,Tryz.ntmps133
  go_wp2_with (first|(go_at_call 173;refine(uh CP _).mono ?_;rintro e w1 ⟨rfl,vs1,hm1,ht1⟩;have HM1:=hide hm1;have HT1:=hide ht1;clear hm1 ht1)|fail)
  go_end0
  exact⟨rfl,_,_,uh HM1,(uh HT0).trans (uh HT1)⟩
 ·go_enter Tryz.func133,Tryz.ntmps133
  go_wp2_with (first|(go_at_call 173;refine(uh CP _).mono ?_;rintro e w1 ⟨rfl,vs1,hm1,ht1⟩;have HM1:=hide hm1;have HT1:=hide ht1;clear hm1 ht1)|fail)
  go_end0
  exact⟨rfl,_,_,uh HM1,(uh HT0).trans (uh HT1)⟩
theorem do5_any (r:List Bool) (x y:Bool) (at_ nx F G:Nat) (B bm bx bf bi:Nat) (ap:Option Addr) (cp:Nat) (ss:List Pl.Bs) (ve:Value) (ef:List Pl.Eff) (vs vg:Value) (fl:Nat→Bool) (go:Nat) (X:Pl.Wd) (w:World) (h:MM w B bm bx bf bi ap cp ss ve ef vs vg (r++[x,y]) fl go X) (hst:r.length≤16):
 Calls Tryz.prog 133 #[.pointer (some ⟨bm,0,none⟩),.agg #[.int .u8 5,.int .i64 at_,.int .i64 nx,.int .i64 F,.int .i64 G]] w fun e w' =>e= .returned (.tuple #[])∧∃vs' vg',MM w' B bm bx bf bi ap cp ss ve ef vs' vg' (r++[y||x]) fl go X∧MTn bm bx bf vs vg vs' vg' w w' :=by
 have hbw:Below w.heap.size w (w.alloc (.cells #[.int .u8 5,.int .i64 at_,.int .i64 nx,.int .i64 F,.int .i64 G] 254)):=(Below.refl _ w).alloc (Nat.le_refl _) _;have HM0:=hide (h.later hbw);rw[show r++[x,y]=(r++[x])++[y] by simp] at HM0;have HT0:Hid (MTn bm bx bf vs vg vs vg w (w.alloc (.cells #[.int .u8 5,.int .i64 at_,.int .i64 nx,.int .i64 F,.int .i64 G] 254))):=MTn.later hbw
 have HR0:Hid (Row (w.alloc (.cells #[.int .u8 5,.int .i64 at_,.int .i64 nx,.int .i64 F,.int .i64 G] 254)) w.heap.size 254 (insL 5 at_ nx F G)):=Row.new w 254 [.int .u8 5,.int .i64 at_,.int .i64 nx,.int .i64 F,.int .i64 G];have C1:=hide (pop_any y (r++[x]) _ _ _ _ _ _ _ _ _ _ _ _ _ _ _ _ (uh HM0) (by simp;omega))
 have C2:Hid (∀(W:World) (v:Value),MM W B bm bx bf bi ap cp ss ve ef v vg (r++[x]) fl go X→Calls Tryz.prog 176 #[.pointer (some ⟨bm,0,none⟩)] W fun e w' =>e= .returned (.bool x)∧∃vs',MM w' B bm bx bf bi ap cp ss ve ef vs' vg r fl go X∧MTn bm bx bf v vg vs' vg W w'):=fun W v hm=>pop_any x r _ _ _ _ _ _ _ _ _ _ _ _ _ _ _ W hm (by omega)
 have C3:Hid (∀(W:World) (v:Value) (z:Bool),MM W B bm bx bf bi ap cp ss ve ef v vg r fl go X→Calls Tryz.prog 173 #[.pointer (some ⟨bm,0,none⟩),.bool z] W fun e w' =>e= .returned (.tuple #[])∧∃vs',MM w' B bm bx bf bi ap cp ss ve ef vs' vg (r++[z]) fl go X∧MTn bm bx bf v vg vs' vg W w'):=fun W v z hm=>push_any z _ _ _ _ _ _ _ _ _ _ _ _ _ _ _ _ W hm (by omega)
 clear h hbw;cases x<;>cases y
 all_goals go_enter Tryz.func133,Tryz.ntmps133
 all_goals go_wp2_with (first
  |(go_at_call 176;refine(uh C1).mono ?_;rintro e w1 ⟨rfl,vs1,hm1,ht1⟩;have HM1:=hide hm1;have HT1:=hide ((uh HT0).trans ht1);clear hm1 ht1)
  |(go_at_call 176;refine(uh C2 _ _ (uh HM1)).mono ?_;rintro e w2 ⟨rfl,vs2,hm2,ht2⟩;have HM2:=hide hm2;have HT2:=hide ((uh HT1).trans ht2);clear hm2 ht2)
  |(go_at_call 173;refine(uh C3 _ _ _ (uh HM2)).mono ?_;rintro e w3 ⟨rfl,vs3,hm3,ht3⟩;have HM3:=hide hm3;have HT3:=hide ((uh HT2).trans ht3);clear hm3 ht3)
  |fail)
 all_goals go_end0
 all_goals exact⟨rfl,_,_,uh HM3,uh HT3⟩
theorem do6_any (r:List Bool) (y:Bool) (at_ nx F G:Nat) (B bm bx bf bi:Nat) (ap:Option Addr) (cp:Nat) (ss:List Pl.Bs) (ve:Value) (ef:List Pl.Eff) (vs vg:Value) (fl:Nat→Bool) (go:Nat) (X:Pl.Wd) (w:World) (h:MM w B bm bx bf bi ap cp ss ve ef vs vg (r++[y]) fl go X) (hst:r.length≤17) (hn:nx≤8388608) (hF:F≤65535):
 Calls Tryz.prog 133 #[.pointer (some ⟨bm,0,none⟩),.agg #[.int .u8 6,.int .i64 at_,.int .i64 nx,.int .i64 F,.int .i64 G]] w fun e w' =>e= .returned (.tuple #[])∧∃vs' vg',MM w' B bm bx bf bi ap cp ss ve ef vs' vg' r fl (if y then go else nx+F) X∧MTn bm bx bf vs vg vs' vg' w w' :=by
 have hbw:Below w.heap.size w (w.alloc (.cells #[.int .u8 6,.int .i64 at_,.int .i64 nx,.int .i64 F,.int .i64 G] 254)):=(Below.refl _ w).alloc (Nat.le_refl _) _;have HM0:=hide (h.later hbw);have HT0:Hid (MTn bm bx bf vs vg vs vg w (w.alloc (.cells #[.int .u8 6,.int .i64 at_,.int .i64 nx,.int .i64 F,.int .i64 G] 254))):=MTn.later hbw
 have HR0:Hid (Row (w.alloc (.cells #[.int .u8 6,.int .i64 at_,.int .i64 nx,.int .i64 F,.int .i64 G] 254)) w.heap.size 254 (insL 6 at_ nx F G)):=Row.new w 254 [.int .u8 6,.int .i64 at_,.int .i64 nx,.int .i64 F,.int .i64 G];have C1:=hide (pop_any y r _ _ _ _ _ _ _ _ _ _ _ _ _ _ _ _ (uh HM0) (by omega))
 have HFR:Hid (∀(Z:World) (v:Value),MTn bm bx bf vs vg v vg (w.alloc (.cells #[.int .u8 6,.int .i64 at_,.int .i64 nx,.int .i64 F,.int .i64 G] 254)) Z→Row Z w.heap.size 254 (insL 6 at_ nx F G)):=fun Z v ht=>h.far (Nat.le_refl _) (uh HR0) ht
 clear h hbw;cases y
 ·go_enter Tryz.func133,Tryz.ntmps133
  go_wp2_with (first
   |(go_at_call 176;refine(uh C1).mono ?_;rintro e w1 ⟨rfl,vs1,hm1,ht1⟩;have hr1:=uh HFR _ _ ht1;have d2:=hr1.cell? (i:=2) rfl;have d3:=hr1.cell? (i:=3) rfl;have e2:=hm1.row.cell? (i:=259) (mCells_tail 0);have e3:=hm1.row.frozen 259;have HMG:=hide (hm1.goOn (nx+F));have HT1:=hide ((uh HT0).trans ht1);clear hm1 ht1 hr1)
   |fail)
  go_end0
  have:=uh HMG;exact⟨rfl,_,_,this.1,(uh HT1).trans this.2⟩
 ·go_enter Tryz.func133,Tryz.ntmps133
  go_wp2_with (first
   |(go_at_call 176;refine(uh C1).mono ?_;rintro e w1 ⟨rfl,vs1,hm1,ht1⟩;have HM1:=hide hm1;have HT1:=hide ((uh HT0).trans ht1);clear hm1 ht1)
   |fail)
  go_end0
  exact⟨rfl,_,_,uh HM1,uh HT1⟩
end Go.Proofs.YtjelacjggijmfaaGreatDoor
