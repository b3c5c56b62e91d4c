/-
  What a goal wants: the patterns that may fit: the walk.
-/
import Derived.Test.YtjelacjggijmfaaGreatDoorTGDA
set_option maxHeartbeats 8000000
set_option maxRecDepth 100000
namespace Go.Proofs.YtjelacjggijmfaaGreatDoor
open Go.RowKit Go.MapKept Go.ChangeMaps Go.Maps
theorem Tryz.infoPat:(Tryz.prog.info? 275).map (fun i=>(i.zero,i.size,i.bytes))=some (some (.agg #[.pointer none,.slice none 0 0]),2,32):=by kernel_rfl
def byS (s:St) (i:Nat):List Pl.Bs:=(rlOf s i).nd.filter placeB
def othS (s:St) (i:Nat):List Pl.Bs:=(rlOf s i).nd.filter (fun n=> !placeB n)
def useB (s:St) (fs:List Pl.File) (i:Nat):Bool:=decide (0<(rlOf s i).cs.length)&&(othS s i).all (thereB fs (tgB s) [])
def usL (s:St) (fs:List Pl.File) (xs:List Nat):List (Nat×List Pl.Bs):=(xs.filter (useB s fs)).map fun i=>(i,byS s i)
def paC (rb:Nat→Nat) (ps:List (Nat×Value)):List Value:=ps.flatMap fun p=>[ptrV rb p.1,p.2]
theorem paC_snoc (rb:Nat→Nat) (ps:List (Nat×Value)) (p:Nat×Value):paC rb (ps++[p])=paC rb ps++[ptrV rb p.1,p.2]:=by
 unfold paC;rw[List.flatMap_append];simp
theorem paC_get (rb:Nat→Nat):∀(ps:List (Nat×Value)) (j:Nat) (p:Nat×Value),ps[j]?=some p→(paC rb ps)[j*2]?=some (ptrV rb p.1)∧(paC rb ps)[j*2+1]?=some p.2
 |[],_,_,h=>by cases h
 |y::r,0,x,h=>by
  cases h;exact⟨rfl,rfl⟩
 |y::r,j+1,x,h=>by
  have ih:=paC_get rb r j x h;have e:paC rb (y::r)=ptrV rb y.1::y.2::paC rb r:=rfl;rw[e,show (j+1)*2=j*2+2 by omega];exact ih
structure UsI (W:World) (rb:Nat→Nat) (us:List (Nat×List Pl.Bs)) (u:Value) (X:World):Prop where
 below:Below W.heap.size W X
 row:∃ps:List (Nat×Value),ps.length=us.length∧X.ownsRow W.heap.size 275 2 u us.length (paC rb ps)∧∀(k:Nat) (p:Nat×Value) (x:Nat×List Pl.Bs),ps[k]?=some p→us[k]?=some x→p.1=x.1∧SlT X p.2 x.2
structure PtI (w0:World) (nd:List Pl.Bs) (j:Nat) (u8 u9:Value) (X:World):Prop where
 below:Below w0.heap.size w0 X
 by' :X.ownsRow w0.heap.size 9 1 u8 ((nd.take j).filter placeB).length (((nd.take j).filter placeB).map strV)
 ot:X.ownsRow w0.heap.size 9 1 u9 ((nd.take j).filter (fun n=> !placeB n)).length (((nd.take j).filter (fun n=> !placeB n)).map strV)
 ne:∀k,u8.ownBlock=some k→u9.ownBlock=some k→False
section
variable {W X Y Z:World} {rb:Nat→Nat} {us:List (Nat×List Pl.Bs)} {u u8 u9 v6:Value} {w0:World} {nd:List Pl.Bs} {j:Nat}
theorem UsI.pat (h:UsI W rb us u X):PaT X rb u us:=by
 obtain⟨ps,h1,h2,h3⟩:=h.row
 rcases h2.2 with⟨e1,e2⟩|⟨g,cap,cur,e1,e2,e3,-⟩
 ·exact .inl ⟨e1,List.eq_nil_of_length_eq_zero e2⟩
 ·refine .inr ⟨g,0,cap,e1,⟨cur,_,e3⟩,fun k x hk=> ?_⟩
  have hkl:=(List.getElem?_eq_some_iff.1 hk).1;have hp:ps[k]?=some ps[k]:=List.getElem?_eq_getElem (by omega);obtain⟨q1,q2⟩:=h3 k ps[k] x hp hk;obtain⟨c1,c2⟩:=paC_get rb ps k _ hp;rw[e1] at h2;rw[Nat.zero_add,←q1];exact⟨own_cell2 h2 _ _ c1,_,own_cell2 h2 _ _ c2,q2⟩
theorem UsI.later (h:UsI W rb us u X) (hb:Below X.heap.size X Y):UsI W rb us u Y:=by
 obtain⟨ps,h1,h2,h3⟩:=h.row;exact⟨h.below.trans (hb.mono h.below.size),ps,h1,own_same h2 (fun k hk=>hb.block k (h2.lt k hk).2),fun k p x hp hx=>⟨(h3 k p x hp hx).1,(h3 k p x hp hx).2.bl (Bl.below hb)⟩⟩
theorem UsI.push (h:UsI W rb us u X) {ps:List (Nat×Value)} (h1:ps.length=us.length) (h2:X.ownsRow W.heap.size 275 2 u us.length (paC rb ps)) (h3:∀(k:Nat) (p:Nat×Value) (x:Nat×List Pl.Bs),ps[k]?=some p→us[k]?=some x→p.1=x.1∧SlT X p.2 x.2) {i:Nat} {bs:List Pl.Bs} {ub:Value} (hub:SlT X ub bs) (hown:Y.ownsRow W.heap.size 275 2 v6 (us.length+1) (paC rb ps++[ptrV rb i,ub])) (hg:X.grownBy Y u.ownBlock):UsI W rb (us++[(i,bs)]) v6 Y:=by
 have hbl:Bl X Y:=by
  have key:∀(k:Nat) (cs:Array Value) (e:TypeId) (fz:Nat×Nat),X.heap[k]?=some (Obj.cells cs e fz)→e≠275→Y.heap[k]?=X.heap[k]?:=fun k cs e fz hk he=>hg.block k (Array.getElem?_eq_some_iff.1 hk).1 (fun q=>by
   obtain⟨cur,fz',q2⟩:=own_type h2 k q.symm
   rw[q2] at hk;cases hk;exact he rfl)
  exact⟨fun k cs fz hk=>key k cs _ fz hk (by decide),fun k cs fz hk=>key k cs _ fz hk (by decide),fun k cs fz hk=>key k cs _ fz hk (by decide),fun k cs fz hk=>key k cs _ fz hk (by decide),fun k cs fz hk=>key k cs _ fz hk (by decide)⟩
 refine⟨h.below.trans ((Tn.grown (p:=fun k=>W.heap.size≤k) hg (fun k e=>(h2.lt k e).1)).below h.below.size (fun k e=>e)),ps++[(i,ub)],by simp[h1],?_,fun k p x hp hx=> ?_⟩
 ·rw[paC_snoc,List.length_append]
  exact hown
 ·by_cases hk:k<ps.length
  ·rw[List.getElem?_append_left hk] at hp
   rw[List.getElem?_append_left (by omega)] at hx;exact⟨(h3 k p x hp hx).1,(h3 k p x hp hx).2.bl hbl⟩
  ·have hke:k=ps.length:=by
    have:=(List.getElem?_eq_some_iff.1 hp).1;simp at this;omega
   subst hke;rw[List.getElem?_append_right (Nat.le_refl _),Nat.sub_self] at hp;rw[List.getElem?_append_right (by omega),h1,Nat.sub_self] at hx;cases hp;cases hx;exact⟨rfl,hub.bl hbl⟩
theorem PtI.yes (h:PtI w0 nd j u8 u9 X) (hj:j<nd.length) (hp:placeB nd[j]=true) (bY:Below X.heap.size X Y) (hown:Z.ownsRow w0.heap.size 9 1 v6 (((nd.take j).filter placeB).length+1) (((nd.take j).filter placeB).map strV++[strV nd[j]])) (hg:Y.grownBy Z u8.ownBlock) (hf:v6.ownBlock=u8.ownBlock∨v6.ownBlock=some Y.heap.size):PtI w0 nd (j+1) v6 u9 Z:=by
 have e1:(nd.take (j+1)).filter placeB=(nd.take j).filter placeB++[nd[j]]:=by rw[List.take_succ_eq_append_getElem hj,List.filter_append];simp[hp]
 have e2:(nd.take (j+1)).filter (fun n=> !placeB n)=(nd.take j).filter (fun n=> !placeB n):=by rw[List.take_succ_eq_append_getElem hj,List.filter_append];simp[hp]
 have hs:=h.below.size
 have hap:u9.ownBlock=none∨u9.ownBlock≠u8.ownBlock:=by
  cases e:u9.ownBlock with
  |none=>exact .inl rfl
  |some k=>exact .inr (fun q=>h.ne k q.symm e)
 have hoY:=own_same (W:=Y) h.ot (fun k hk=>bY.block k (h.ot.lt k hk).2);refine⟨(h.below.trans (bY.mono hs)).trans ((Tn.grown (p:=fun k=>w0.heap.size≤k) hg (fun k e=>(h.by'.lt k e).1)).below (Nat.le_trans hs bY.size) (fun k e=>e)),by rw[e1,List.length_append,List.map_append];exact hown,by rw[e2];exact World.ownsRow.kept hoY hg hap,fun k q1 q2=> ?_⟩
 ·rcases hf with hf|hf
  ·exact h.ne k (hf▸q1) q2
  ·rw[hf] at q1;cases q1;have:=(hoY.lt _ q2).2;omega
theorem PtI.no (h:PtI w0 nd j u8 u9 X) (hj:j<nd.length) (hp:placeB nd[j]=false) (bY:Below X.heap.size X Y) (hown:Z.ownsRow w0.heap.size 9 1 v6 (((nd.take j).filter (fun n=> !placeB n)).length+1) (((nd.take j).filter (fun n=> !placeB n)).map strV++[strV nd[j]])) (hg:Y.grownBy Z u9.ownBlock) (hf:v6.ownBlock=u9.ownBlock∨v6.ownBlock=some Y.heap.size):PtI w0 nd (j+1) u8 v6 Z:=by
 have e1:(nd.take (j+1)).filter placeB=(nd.take j).filter placeB:=by rw[List.take_succ_eq_append_getElem hj,List.filter_append];simp[hp]
 have e2:(nd.take (j+1)).filter (fun n=> !placeB n)=(nd.take j).filter (fun n=> !placeB n)++[nd[j]]:=by rw[List.take_succ_eq_append_getElem hj,List.filter_append];simp[hp]
 have hs:=h.below.size
 have hap:u8.ownBlock=none∨u8.ownBlock≠u9.ownBlock:=by
  cases e:u8.ownBlock with
  |none=>exact .inl rfl
  |some k=>exact .inr (fun q=>h.ne k e q.symm)
 have hoY:=own_same (W:=Y) h.by' (fun k hk=>bY.block k (h.by'.lt k hk).2)
 refine⟨(h.below.trans (bY.mono hs)).trans ((Tn.grown (p:=fun k=>w0.heap.size≤k) hg (fun k e=>(h.ot.lt k e).1)).below (Nat.le_trans hs bY.size) (fun k e=>e)),by rw[e1];exact World.ownsRow.kept hoY hg hap,by rw[e2,List.length_append,List.map_append];exact hown,fun k q1 q2=> ?_⟩
 ·rcases hf with hf|hf
  ·exact h.ne k q1 (hf▸q2)
  ·rw[hf] at q2;cases q2;have:=(hoY.lt _ q1).2;omega
end
theorem usL_next (s:St) (fs:List Pl.File) (xs:List Nat) (j:Nat) (hj:j<xs.length):usL s fs (xs.take (j+1))=if useB s fs xs[j]=true then usL s fs (xs.take j)++[(xs[j],byS s xs[j])] else usL s fs (xs.take j):=by
 unfold usL;rw[List.take_succ_eq_append_getElem hj,List.filter_append];split
 ·next h=>simp[h]
 ·next h=>simp[h]
theorem usL_len (s:St) (fs:List Pl.File) (xs:List Nat):(usL s fs xs).length≤xs.length:=by
 unfold usL;rw[List.length_map];exact List.length_filter_le _ _
theorem filt_le (p:Pl.Bs→Bool) (l:List Pl.Bs) (j:Nat):((l.take j).filter p).length≤l.length:=Nat.le_trans (List.length_filter_le _ _) (by rw[List.length_take];omega)
theorem contains_any (t:Pl.Bs) (w:World) (hg:Glob w) (hs:t.length≤4294967200):Calls Tryz.prog 140 #[.string ⟨t.toArray⟩,.string ⟨#[37]⟩] w fun e w' =>e= .returned (.bool (placeB t))∧w' =w:=by
 obtain⟨m,hm⟩:=hg;exact Any.strings_Contains Tryz.lay144 ⟨t.toArray⟩ ⟨#[37]⟩ m w (by show t.length<_;omega) hm
section
variable {W X:World} {wk:Nat} {c:Ad} {rb:Nat→Nat} {s:St} {vp:Value} {l:Ents} {bf bi:Nat} {ve:Value} {ef:List Pl.Eff} {fs:List Pl.File} {clock:Int} {v2 v3 v4 v5:Value}
theorem usable_any (xs:List Nat) (v:Value) (h:WkM W wk c rb s vp l bf bi ve ef fs clock v2 v3 v4 v5) (hv:PtT W v (xs.map rb)) (hx:∀i∈xs,i<s.rules.length∧(rlOf s i).nd.length≤2000∧∀n∈(rlOf s i).nd,n.length≤2000) (hn:xs.length≤1000000):
 Calls Tryz.prog 91 #[.pointer (some ⟨wk,0,none⟩),v] W fun e W' =>∃u,e= .returned u∧PaT W' rb u (usL s fs xs)∧Below W.heap.size W W' :=by
 obtain⟨i0,hi0,hz0,hz1,hz2⟩:=info_parts Tryz.infoStr;obtain⟨j0,hj0,hy0,hy1,hy2⟩:=info_parts Tryz.infoPat;obtain⟨a,cap,rfl⟩:=hv.sh;obtain⟨b,o,hbo⟩:=hv.rd;rw[List.length_map] at hbo⊢;have HB:=hide hbo;have HH:=hide h;have HX:=hide hx
 have HI0:Hid (UsI W rb (usL s fs (xs.take 0)) (.slice none 0 0) W):=⟨Below.refl _ _,[],rfl,World.ownsRow_nil _ _ _ _,fun k p x hp=>by cases hp⟩;clear h hv hbo hx
 go_enter Tryz.func91,Tryz.ntmps91
 go_wp2_with fail
 go_loopw [5,14] (fun u iv wr=>∃j:Nat,iv= .int .i64 j∧j≤xs.length∧Hid (UsI W rb (usL s fs (xs.take j)) u wr)) (fun _ iv _=>xs.length-intN iv)
 case atStart=>exact⟨0,rfl,by omega,HI0⟩
 case round=>
  clear HI0;obtain⟨j,rfl,hj2,HI⟩:=hrel
  by_cases hj:j<xs.length
  ·have t1:(j:Int)<xs.length:=by omega
   have t0:(0:Int)≤(j:Int):=by omega
   have hb:=(uh HI).below;have hM:=(uh HH).later hb;obtain⟨rfl,hlt,hr⟩:=uh HB (by omega);have cn:=(hr.below hb hlt) j (rb xs[j]) (by rw[List.getElem?_map,List.getElem?_eq_getElem hj];rfl);obtain⟨x1,x2,x3⟩:=uh HX xs[j] (List.getElem_mem hj);have HNX:=hide (usL_next s fs xs j hj)
   have hUL:=Nat.le_trans (usL_len s fs (xs.take j)) (by rw[List.length_take];omega:(xs.take j).length≤xs.length);obtain⟨vt,vn,vc,r1,-,r3,r4⟩:=hM.bm.rules xs[j] x1;have HR4:=hide r4;have HBY:Hid (byS s xs[j]=(rlOf s xs[j]).nd.filter placeB):=rfl;have HOT:Hid (othS s xs[j]=(rlOf s xs[j]).nd.filter (fun n=> !placeB n)):=rfl
   have HUS:Hid (useB s fs xs[j]=(decide (0<(rlOf s xs[j]).cs.length)&&(othS s xs[j]).all (thereB fs (tgB s) []))):=rfl;generalize xs[j]=i at*;obtain⟨an,cn1,rfl⟩:=r3.sh;obtain⟨ac,cc1,rfl⟩:=r4.sh;obtain⟨nb,no,hnb⟩:=r3.rd;have e1:=r1.cell? (i:=1) rfl;have HR1:=hide r1;have HM:=hide hM;have HNB:=hide hnb
   have hP0:PtI wr (rlOf s i).nd 0 (.slice none 0 0) (.slice none 0 0) wr:=⟨Below.refl _ _,World.ownsRow_nil _ _ _ _,World.ownsRow_nil _ _ _ _,fun k e=>by cases e⟩;have HP0:=hide hP0;generalize usL s fs (xs.take j)=us at*;generalize (rlOf s i).nd=nd at*;generalize (rlOf s i).cs=csr at*;clear hr r1 r3 r4 hM hnb hP0 hb
   go_wp2_with fail
   obtain⟨w0,hw0⟩:∃w0,w0=wr:=⟨_,rfl⟩;rw[←hw0] at HP0 HI HM HR1 HNB HR4
   go_loopw [8,9,23] (fun u8 u9 iv wi=>∃q:Nat,iv= .int .i64 q∧q≤nd.length∧Hid (PtI w0 nd q u8 u9 wi)) (fun _ _ iv _=>nd.length-intN iv)
   case atStart=>exact⟨0,rfl,by omega,by rw[hw0] at HP0⊢;exact HP0⟩
   case round=>
    clear HP0;obtain⟨q,rfl,hq2,HQ⟩:=hrel
    by_cases hq:q<nd.length
    ·have s1:(q:Int)<nd.length:=by omega
     have s0:(0:Int)≤(q:Int):=by omega
     obtain⟨rfl,hlb,hrd⟩:=uh HNB (by omega);have cq:=(hrd.below (uh HQ).below hlb) q nd[q] (List.getElem?_eq_getElem hq);unfold strV at cq;have hql:=x3 nd[q] (List.getElem_mem hq);have CC:=hide (contains_any nd[q] wr ((uh HM).glob.later (uh HQ).below) (by omega));have l8:=filt_le placeB nd q;have l9:=filt_le (fun n=> !placeB n) nd q;have hs0:=(uh HQ).below.size
     have bY:=(Below.refl wr.heap.size wr).alloc (Nat.le_refl _) (.cells #[.string ⟨nd[q].toArray⟩] 9);have HRX:=hide (Row.new wr 9 [.string ⟨nd[q].toArray⟩]);have HO8:=hide (own_same (W:=wr.alloc (.cells #[.string ⟨nd[q].toArray⟩] 9)) (uh HQ).by' (fun k hk=>bY.block k ((uh HQ).by'.lt k hk).2))
     have HO9:=hide (own_same (W:=wr.alloc (.cells #[.string ⟨nd[q].toArray⟩] 9)) (uh HQ).ot (fun k hk=>bY.block k ((uh HQ).ot.lt k hk).2));have HYES:=hide (fun hp v6 Z hown hg hf=>(uh HQ).yes (v6:=v6) (Z:=Z) hq hp bY hown hg hf);have HNO:=hide (fun hp v6 Z hown hg hf=>(uh HQ).no (v6:=v6) (Z:=Z) hq hp bY hown hg hf);clear hrd bY;generalize nd[q]=nq at*
     cases hpb:placeB nq with
     |true=>
      rw[hpb] at CC;have HY2:=hide (uh HYES hpb);clear HYES HNO hpb
      go_wp2_with (first
       |(go_at_call 140;refine(uh CC).mono ?_;clear CC;rintro e w1 ⟨rfl,hw1⟩;rw[hw1];clear hw1 w1)
       |(at_builtin;refine wpList_append_own_at _ rfl (.tmp 29) (.tmp 31) 30 rfl w0.heap.size 9 i0 (.string ⟨#[]⟩) 1 16 Tryz.underlying30 hi0 hz0 hz1 hz2 rfl (by decide) _ _ _ rfl (uh HO8) ⟨wr.heap.size,0,none⟩ 1 1 [.string ⟨nq.toArray⟩] rfl (by simp) (fun j u hj=>by rw[addr_add0];exact(uh HRX).cell? hj) (by intro u hu;rw[List.mem_singleton] at hu;subst hu;rfl) (by unfold maxLen;omega) (by omega) (by rw[World.size_alloc];omega) ?_;intro v6 w6 hown6 hgrow6 _ hf6;have HQ6:=hide (uh HY2 v6 w6 hown6 hgrow6 hf6);clear hown6 hgrow6 hf6)
       |fail)
      go_roundw
      case rel=>exact⟨q+1,by go_num,by omega,HQ6⟩
      case measure=>simp only[intN];omega
     |false=>
      rw[hpb] at CC;have HN2:=hide (uh HNO hpb);clear HYES HNO hpb
      go_wp2_with (first
       |(go_at_call 140;refine(uh CC).mono ?_;clear CC;rintro e w1 ⟨rfl,hw1⟩;rw[hw1];clear hw1 w1)
       |(at_builtin;refine wpList_append_own_at _ rfl (.tmp 33) (.tmp 35) 30 rfl w0.heap.size 9 i0 (.string ⟨#[]⟩) 1 16 Tryz.underlying30 hi0 hz0 hz1 hz2 rfl (by decide) _ _ _ rfl (uh HO9) ⟨wr.heap.size,0,none⟩ 1 1 [.string ⟨nq.toArray⟩] rfl (by simp) (fun j u hj=>by rw[addr_add0];exact(uh HRX).cell? hj) (by intro u hu;rw[List.mem_singleton] at hu;subst hu;rfl) (by unfold maxLen;omega) (by omega) (by rw[World.size_alloc];omega) ?_;intro v6 w6 hown6 hgrow6 _ hf6;have HQ6:=hide (uh HN2 v6 w6 hown6 hgrow6 hf6);clear hown6 hgrow6 hf6)
       |fail)
      go_roundw
      case rel=>exact⟨q+1,by go_num,by omega,HQ6⟩
      case measure=>simp only[intN];omega
    ·have hqe:q=nd.length:=by omega
     subst hqe;have s1:¬(nd.length:Int)<nd.length:=by omega
     obtain⟨hbq,o8,o9,-⟩:=uh HQ;rw[List.take_length] at o8 o9;have T8:=SlT.own o8;have T9:=SlT.own o9;obtain⟨a8,c8,rfl⟩:=own_sh o8;obtain⟨a9,c9,rfl⟩:=own_sh o9;obtain⟨b9,o9',hb9⟩:=T9.rd;have e2:=((uh HR1).later hbq).cell? (i:=2) rfl;have HUI:=hide ((uh HI).later hbq);have HT8:=hide T8;have hf8:=List.length_filter_le placeB nd
     have hf9:=List.length_filter_le (fun n=> !placeB n) nd
     have CT:=hide (areThere_any (nd.filter fun n=> !placeB n) [] a9 c9 b9 o9' ((uh HM).later hbq).at hb9 (by omega) (fun n hn=>by
      have h1:=x3 n (List.mem_filter.1 hn).1
      exact⟨by omega,by simp only[List.length_nil,Nat.mul_zero];omega⟩))
     have HUS2:Hid (useB s fs i=(decide (0<csr.length)&&(nd.filter fun n=> !placeB n).all (thereB fs (tgB s) []))):=by
      show _=_;rw[←uh HOT];exact uh HUS
     generalize (nd.filter fun n=> !placeB n).all (thereB fs (tgB s) [])=al at*;generalize (nd.filter fun n=> !placeB n).length=n9 at*;have HBQ:=hide hbq;clear hbq o8 o9 T8 T9 hb9 HQ HUS HM HR1 HNB HI
     by_cases hz:0<csr.length
     ·have z1:(0:Int)<(csr.length:Int):=by omega
      have z2:decide ((0:Int)<(csr.length:Int))=true:=by simpa using z1
      rw[decide_eq_true hz,Bool.true_and] at HUS2;cases al with
      |true=>
       have HNX2:=uh HNX;rw[if_pos (uh HUS2)] at HNX2;have HN3:=hide HNX2;clear HNX2 hz
       go_wp2_with (first
        |(go_at_call 141;refine(uh CT).mono ?_;clear CT;rintro e w2 ⟨rfl,hb2⟩;have bY:=(Below.refl w2.heap.size w2).alloc (Nat.le_refl _) (.cells #[.pointer (some ⟨rb i,0,none⟩),.slice a8 (nd.filter placeB).length c8] 275);have hUY:=((uh HUI).later hb2).later bY;obtain⟨ps,p1,p2,p3⟩:=hUY.row;have HUY:=hide hUY;have HP2:=hide p2;have HP3:=hide p3;have HTY:=hide (((uh HT8).bl (Bl.below hb2)).bl (Bl.below bY));have HRX:=hide (Row.new w2 275 [.pointer (some ⟨rb i,0,none⟩),.slice a8 (nd.filter placeB).length c8]);have hszY:=hUY.below.size;clear hb2 bY hUY p2 p3)
        |(at_builtin;refine wpList_append_own_at _ rfl (.tmp 49) (.tmp 53) 190 rfl W.heap.size 275 j0 (.agg #[.pointer none,.slice none 0 0]) 2 32 Tryz.underlying190 hj0 hy0 hy1 hy2 rfl (by decide) _ us.length _ rfl (uh HP2) ⟨w2.heap.size,0,none⟩ 1 1 [.pointer (some ⟨rb i,0,none⟩),.slice a8 (nd.filter placeB).length c8] rfl (by simp) (fun j u hj=>by rw[addr_add0];exact(uh HRX).cell? hj) (by intro u hu;simp only[List.mem_cons,List.not_mem_nil,or_false] at hu;rcases hu with e|e<;>(subst e;rfl)) (by unfold maxLen;omega) (by omega) hszY ?_;intro v6 w6 hown6 hgrow6 _ _;have HU6:=hide ((uh HUY).push (i:=i) p1 (uh HP2) (uh HP3) (uh HTY) hown6 hgrow6);clear hown6 hgrow6)
        |fail)
       go_roundw
       case rel=>exact⟨j+1,by go_num,by omega,by rw[uh HN3,uh HBY];exact HU6⟩
       case measure=>simp only[intN];omega
      |false=>
       have HNX2:=uh HNX;rw[if_neg (by rw[uh HUS2];simp)] at HNX2;have HN3:=hide HNX2;clear HNX2 hz
       go_wp2_with (first
        |(go_at_call 141;refine(uh CT).mono ?_;clear CT;rintro e w2 ⟨rfl,hb2⟩;have HU2:=hide ((uh HUI).later hb2);clear hb2)
        |fail)
       go_roundw
       case rel=>exact⟨j+1,by go_num,by omega,by rw[uh HN3];exact HU2⟩
       case measure=>simp only[intN];omega
     ·have z1:¬(0:Int)<(csr.length:Int):=by omega
      rw[decide_eq_false hz,Bool.false_and] at HUS2;have HNX2:=uh HNX;rw[if_neg (by rw[uh HUS2];simp)] at HNX2;have HN3:=hide HNX2;clear HNX2 hz CT
      go_wp2_with fail
      go_roundw
      case rel=>exact⟨j+1,by go_num,by omega,by rw[uh HN3];exact HUI⟩
      case measure=>simp only[intN];omega
  ·have hje:j=xs.length:=by omega
   subst hje;have t1:¬(xs.length:Int)<xs.length:=by omega
   have hI:=uh HI;rw[List.take_length] at hI;have HP:=hide hI.pat;have HBB:=hide hI.below;clear hI HI
   go_wp2_with fail
   go_ret
   exact⟨_,rfl,uh HP,uh HBB⟩
end
end Go.Proofs.YtjelacjggijmfaaGreatDoor
