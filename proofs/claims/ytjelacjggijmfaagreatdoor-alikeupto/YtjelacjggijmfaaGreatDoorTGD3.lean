/-
  The book: a rule is added.
-/
import Derived.Test.YtjelacjggijmfaaGreatDoorTGC5
set_option maxHeartbeats 4000000
set_option maxRecDepth 100000
namespace Go.Proofs.YtjelacjggijmfaaGreatDoor
open Go.RowKit Go.MapKept Go.ChangeMaps Go.Maps
theorem Tryz.infoPtr:(Tryz.prog.info? 265).map (fun i=>(i.zero,i.size,i.bytes))=some (some (.pointer none),1,8):=by kernel_rfl
theorem ptr_ones (rb:Nat→Nat) (i:Nat):∀u∈[ptrV rb i],u.oneCell' =true:=by
 intro u hu;rw[List.mem_singleton] at hu;subst hu;rfl
theorem headD_get:∀(l:List Pl.Bs) (h:0<l.length),l.headD []=l[0]
 |[],h=>by simp at h
 |x::r,_=>rfl
section
variable {W X:World} {F G:Foot} {c:Ad} {rb:Nat→Nat} {s:St}
theorem SlF.fr {v:Value} {ws:List Pl.Bs} (h:SlF W F v ws) (hf:Fr F G W X):SlF X G v ws:=h.same hf.tn.size (fun k hk e=>⟨hf.tn.block k hk (fun q=>q e),hf.old k hk e⟩)
theorem SlF.later {v:Value} {ws:List Pl.Bs} (h:SlF W F v ws) (hb:Below W.heap.size W X):SlF X F v ws:=h.fr (Fr.later hb)
theorem PRow.later {t:Tag} {v:Value} {xs:List Nat} (h:PRow W F t v rb xs) (hb:Below W.heap.size W X) (hl:∀k,F k=some t→k<W.heap.size):PRow X F t v rb xs:=h.same (fun k e=>⟨hb.block k (hl k e),e⟩)
structure ExI (W:World) (F:Foot) (c:Ad) (rb:Nat→Nat) (s:St) (i:Nat) (tg:List Pl.Bs) (j:Nat) (X:World):Prop where
 mem:∃G,RdM X G c rb ((tg.take j).foldl (ofAdd i) s)∧Fr F G W X
theorem fold_next (i:Nat) (s:St) (tg:List Pl.Bs) (j:Nat) (h:j<tg.length):(tg.take (j+1)).foldl (ofAdd i) s=ofAdd i ((tg.take j).foldl (ofAdd i) s) tg[j]:=by
 rw[List.take_succ_eq_append_getElem h,List.foldl_append];rfl
theorem entGrow {i:Nat} {name:Pl.Bs} {l:Ents} {v v' :Value} {X:World} (h:RdM W F c rb s) (hi:i<s.rules.length) (hl:SMap W c.bt l) (hll:l.length≤s.tl) (hP:∀n,PRow W F (.ent n) ((mget l n).getD (.slice none 0 0)) rb (s.of n)) (hv:(mget l name).getD (.slice none 0 0)=v) (hb:s.tl<1073741824) (hown:X.ownsRow 0 265 1 v' ((s.of name).length+1) ((s.of name).map (ptrV rb)++[ptrV rb i])) (hg:W.grownBy X v.ownBlock) (hf:v'.ownBlock=v.ownBlock∨v'.ownBlock=some W.heap.size):
 ∃Y,(Instr.mapUpdate 139 (.map (some c.bt)) (.string ⟨name.toArray⟩) v').run Tryz.prog X= .ok () Y∧∃G,RdM Y G c rb (ofAdd i s name)∧Fr F G W Y:=by
 have hPn:=hP name;rw[hv] at hPn
 have hne:some c.bt≠v.ownBlock:=fun e=>by
  obtain⟨cur,fz,q⟩:=own_type hPn.1 c.bt e.symm;obtain⟨es,clock,hk,_⟩:=hl;rw[hk] at q;cases q
 obtain⟨Y,h1,h2,h3⟩:=(hl.kept hg hne).put (P:=Tryz.prog) Tryz.underlying139 Tryz.underlying9 (by unfold maxLen;omega) name v';exact⟨Y,h1,_,h.toOf hi hll hP hv hown hg hf h3 h2⟩
theorem lookEnt {l:Ents} (h:SMap W c.bt l) (name:Pl.Bs):(Instr.lookup 139 (.map (some c.bt)) (.string ⟨name.toArray⟩) false).run Tryz.prog W= .ok ((mget l name).getD (.slice none 0 0)) W:=by
 have:=h.look (P:=Tryz.prog) Tryz.underlying139 Tryz.underlying9 (zeroRules W) name false
 simpa [strV] using this
theorem explicit_any (i:Nat) (r:Rl) (h:RdM W F c rb s) (hr:s.rules[i]?=some r) (hne:r.tg≠[]) (htl:s.tl+r.tg.length≤1073741824) (hol:∀n,(s.of n).length≤s.tl):
 Calls Tryz.prog 232 #[.pointer (some ⟨c.bb,0,none⟩),ptrV rb i] W fun e W' =>e= .returned (.tuple #[])∧∃G,RdM W' G c rb (explicitF s r.tg i)∧Fr F G W W' :=by
 obtain⟨i0,hi0,hz0,hz1,hz2⟩:=info_parts Tryz.infoPtr;have hil:=(List.getElem?_eq_some_iff.1 hr).1;obtain⟨vp,hB,-⟩:=h.book;obtain⟨vt,vn,vc,q1,q2,-,-⟩:=h.rules i r hr
 rcases q2 with⟨-,q⟩|⟨tb,tO,tc,rfl,hb1,hb2,hb3,hb4⟩
 ·exact absurd q hne
 have q2:SlF W F (.slice (some ⟨tb,tO,none⟩) r.tg.length tc) r.tg:= .inr ⟨tb,tO,tc,rfl,hb1,hb2,hb3,hb4⟩;have hlen:0<r.tg.length:=List.length_pos_iff.2 hne;have e0:=q1.cell? (i:=0) rfl;have b2:=Row.cell? (i:=2) hB rfl;have f2:=Row.frozen hB 2;unfold strV at b2;have cn:=hb3 0 r.tg[0] (List.getElem?_eq_getElem hlen);unfold strV at cn;rw[Nat.add_zero] at cn
 have hhd:r.tg.headD []=r.tg[0]:=headD_get _ hlen
 have hrb:rb i≠c.bb:=fun e=>by
  have:=h.frb i hil;rw[e,h.fbb] at this;cases this
 have HH:=hide h;have HQ:=hide q1;have HB:=hide hB;have HS:=hide q2;clear h hB q2 hb3 hb4
 by_cases hf:s.first=[]
 ·have hse:s.first.isEmpty=true:=by rw[hf];rfl
  have HEX:Hid (explicitF s r.tg i=r.tg.foldl (ofAdd i) {s with first:=r.tg[0]}):=by
   show _=_;unfold explicitF;rw[if_pos hf,hhd]
  clear hhd hf;have hT:=(uh HH).toFirst r.tg[0];unfold strV at hT;have e1:=(Row.other (uh HQ) hrb 2 (.string ⟨r.tg[0].toArray⟩)).cell? (i:=0) rfl;have HX0:Hid (ExI W F c rb {s with first:=r.tg[0]} i r.tg 0 (W.setCell ⟨c.bb,2,none⟩ (.string ⟨r.tg[0].toArray⟩))):=⟨F,hT⟩;clear hT;generalize r.tg[0]=hd0 at*
  go_enter Tryz.func232,Tryz.ntmps232
  unfold ptrV
  go_wp2_with fail
  go_loopw [25] (fun iv wr=>∃j:Nat,iv= .int .i64 j∧j≤r.tg.length∧Hid (ExI W F c rb {s with first:=hd0} i r.tg j wr)) (fun iv _=>r.tg.length-intN iv)
  case atStart=>exact⟨0,rfl,by omega,HX0⟩
  case round=>
   clear HX0 e0 b2 f2 cn;obtain⟨j,rfl,hj2,HX⟩:=hrel
   by_cases hj:j<r.tg.length
   ·have t1:(j:Int)<r.tg.length:=by omega
    have t0:(0:Int)≤(j:Int):=by omega
    obtain⟨G,hG,hFr⟩:=(uh HX).mem;obtain⟨vp',hB',-⟩:=hG.book;have d3:=Row.cell? (i:=3) hB' rfl;have lb:c.bb<wr.heap.size:=Row.lt hB';have q2' :=(uh HS).fr hFr
    rcases q2' with⟨q,-⟩|⟨tb',tO1,tc',q,k1,k2,k3,-⟩
    ·cases q
    cases q;have cn:=k3 j r.tg[j] (List.getElem?_eq_getElem hj);unfold strV at cn;obtain⟨l,hl,hll,hP⟩:=hG.tgts;obtain⟨a1,a2,a3,a4,a5,a6,a7,a8,a9,a10⟩:=ofAdd_fold i (r.tg.take j) {s with first:=hd0};have hnx:=fold_next i {s with first:=hd0} r.tg j hj;have htk:(r.tg.take j).length=j:=by rw[List.length_take];omega
    have hof:∀n,(((r.tg.take j).foldl (ofAdd i) {s with first:=hd0}).of n).length≤s.tl+j:=fun n=>by
     have:=a10 hol n;rw[htk] at this;exact this
    have htj:((r.tg.take j).foldl (ofAdd i) {s with first:=hd0}).tl=s.tl+j:=by rw[a9,htk]
    have hij:i<((r.tg.take j).foldl (ofAdd i) {s with first:=hd0}).rules.length:=by rw[a2];exact hil
    clear a1 a2 a3 a4 a5 a6 a7 a8 a9 a10 htk;have HNX:=hide hnx;clear hnx k3;generalize r.tg[j]=nme at*;generalize (r.tg.take j).foldl (ofAdd i) {s with first:=hd0}=sj at*;have hon:=hof nme;have bY:=(((Below.refl wr.heap.size wr).drew).alloc (Nat.le_refl _) (.cells #[ptrV rb i] 265));have hL1:=lookEnt (W:=wr.drew) (hl.later (Below.refl _ wr).drew) nme
    have hL2:=lookEnt (W:=wr.drew.alloc (.cells #[ptrV rb i] 265)) (hl.later bY) nme;obtain⟨v,hv⟩:∃v,v=(mget l nme).getD (.slice none 0 0):=⟨_,rfl⟩;rw[←hv] at hL1 hL2;have HL:=hide (hl.later bY);have HGY:=hide (hG.later bY)
    have HPY:Hid (∀n,PRow (wr.drew.alloc (.cells #[ptrV rb i] 265)) G (.ent n) ((mget l n).getD (.slice none 0 0)) rb (sj.of n)):=fun n=>(hP n).later bY (fun k e=>hG.lt e)
    have HOW:=hide (hv▸(uh HPY nme).1);have HFY:=hide (hFr.trans (Fr.later bY));have HV:=hide hv.symm;have rX:=Row.new wr.drew 265 [ptrV rb i];have HRX:=hide rX
    have hL3:(Instr.lookup 139 (.map (some c.bt)) (.string ⟨nme.toArray⟩) false).run Tryz.prog (wr.alloc (.cells #[.pointer (some ⟨rb i,0,none⟩)] 265)).drew= .ok v (wr.alloc (.cells #[.pointer (some ⟨rb i,0,none⟩)] 265)).drew:=hL2;clear hL2;have HBY:=hide (Row.later hB' bY);have dY:=Row.cell? (i:=3) (uh HBY) rfl;clear hl hP hG hFr bY hv rX hB'
    go_wp2_with fail
    go_region_held_law (fun w' =>w'.cell? ⟨c.bb,3,none⟩=some (.map (some c.bt))) (first|exact d3|exact dY|exact d6|exact d7) (first
     |(refine step_append_fresh rfl (.tmp 39) (.tmp 41) 138 rfl 0 265 i0 _ 1 8 Tryz.underlying138 hi0 hz0 hz1 hz2 rfl (by decide) v (sj.of nme).length _ (by rfl) (uh HOW) ⟨wr.heap.size,0,none⟩ 1 1 [ptrV rb i] (by rfl) (by rfl) (fun j u hj=>by rw[addr_add0];exact(uh HRX).cell? hj) (ptr_ones rb i) (by unfold maxLen;omega) (by omega) (Nat.zero_le _) ?_;intro v6 w6 hown6 hgrow6 hf6;obtain⟨w7,hrun7,hR7⟩:=entGrow (uh HGY) hij (uh HL) hll (uh HPY) (uh HV) (by omega) hown6 hgrow6 hf6;have d6:=Row.cell? (i:=3) (Row.grown (uh HBY) hgrow6 (row_ne_own (uh HBY) (uh HOW) (by decide))) rfl;obtain⟨G7,m7,f7⟩:=hR7;obtain⟨vp7,hB7,-⟩:=m7.book;have d7:=Row.cell? (i:=3) hB7 rfl;have HM7:=hide m7;have HF7:=hide f7;clear m7 f7 hB7 hown6 hgrow6 hf6)
     |fail)
    all_goals go_wp2_with fail
    all_goals go_roundw
    all_goals first
     |exact⟨j+1,by go_num,by omega,⟨G7,by rw[uh HNX];exact uh HM7,(uh HFY).trans (uh HF7)⟩⟩
     |(simp only[intN];omega)
   ·have hje:j=r.tg.length:=by omega
    subst hje;have t1:¬(r.tg.length:Int)<r.tg.length:=by omega
    have hmm:=(uh HX).mem;rw[List.take_length] at hmm;have HM:=hide hmm;clear hmm
    go_wp2_with fail
    go_end0
    exact⟨rfl,by rw[uh HEX];exact uh HM⟩
 ·have hse:s.first.isEmpty=false:=by rw[←Bool.not_eq_true,List.isEmpty_iff];exact hf
  have HEX:Hid (explicitF s r.tg i=r.tg.foldl (ofAdd i) s):=by
   show _=_;unfold explicitF;rw[if_neg hf]
  clear hhd hf;have HX0:Hid (ExI W F c rb s i r.tg 0 W):=⟨F,uh HH,Fr.refl _ _⟩
  go_enter Tryz.func232,Tryz.ntmps232
  unfold ptrV
  go_wp2_with fail
  go_loopw [25] (fun iv wr=>∃j:Nat,iv= .int .i64 j∧j≤r.tg.length∧Hid (ExI W F c rb s i r.tg j wr)) (fun iv _=>r.tg.length-intN iv)
  case atStart=>exact⟨0,rfl,by omega,HX0⟩
  case round=>
   clear HX0 e0 b2 f2 cn;obtain⟨j,rfl,hj2,HX⟩:=hrel
   by_cases hj:j<r.tg.length
   ·have t1:(j:Int)<r.tg.length:=by omega
    have t0:(0:Int)≤(j:Int):=by omega
    obtain⟨G,hG,hFr⟩:=(uh HX).mem;obtain⟨vp',hB',-⟩:=hG.book;have d3:=Row.cell? (i:=3) hB' rfl;have lb:c.bb<wr.heap.size:=Row.lt hB';have q2' :=(uh HS).fr hFr
    rcases q2' with⟨q,-⟩|⟨tb',tO1,tc',q,k1,k2,k3,-⟩
    ·cases q
    cases q;have cn:=k3 j r.tg[j] (List.getElem?_eq_getElem hj);unfold strV at cn;obtain⟨l,hl,hll,hP⟩:=hG.tgts;obtain⟨a1,a2,a3,a4,a5,a6,a7,a8,a9,a10⟩:=ofAdd_fold i (r.tg.take j) s;have hnx:=fold_next i s r.tg j hj;have htk:(r.tg.take j).length=j:=by rw[List.length_take];omega
    have hof:∀n,(((r.tg.take j).foldl (ofAdd i) s).of n).length≤s.tl+j:=fun n=>by
     have:=a10 hol n;rw[htk] at this;exact this
    have htj:((r.tg.take j).foldl (ofAdd i) s).tl=s.tl+j:=by rw[a9,htk]
    have hij:i<((r.tg.take j).foldl (ofAdd i) s).rules.length:=by rw[a2];exact hil
    clear a1 a2 a3 a4 a5 a6 a7 a8 a9 a10 htk;have HNX:=hide hnx;clear hnx k3;generalize r.tg[j]=nme at*;generalize (r.tg.take j).foldl (ofAdd i) s=sj at*;have hon:=hof nme;have bY:=(((Below.refl wr.heap.size wr).drew).alloc (Nat.le_refl _) (.cells #[ptrV rb i] 265));have hL1:=lookEnt (W:=wr.drew) (hl.later (Below.refl _ wr).drew) nme
    have hL2:=lookEnt (W:=wr.drew.alloc (.cells #[ptrV rb i] 265)) (hl.later bY) nme;obtain⟨v,hv⟩:∃v,v=(mget l nme).getD (.slice none 0 0):=⟨_,rfl⟩;rw[←hv] at hL1 hL2;have HL:=hide (hl.later bY);have HGY:=hide (hG.later bY)
    have HPY:Hid (∀n,PRow (wr.drew.alloc (.cells #[ptrV rb i] 265)) G (.ent n) ((mget l n).getD (.slice none 0 0)) rb (sj.of n)):=fun n=>(hP n).later bY (fun k e=>hG.lt e)
    have HOW:=hide (hv▸(uh HPY nme).1);have HFY:=hide (hFr.trans (Fr.later bY));have HV:=hide hv.symm;have rX:=Row.new wr.drew 265 [ptrV rb i];have HRX:=hide rX
    have hL3:(Instr.lookup 139 (.map (some c.bt)) (.string ⟨nme.toArray⟩) false).run Tryz.prog (wr.alloc (.cells #[.pointer (some ⟨rb i,0,none⟩)] 265)).drew= .ok v (wr.alloc (.cells #[.pointer (some ⟨rb i,0,none⟩)] 265)).drew:=hL2;clear hL2;have HBY:=hide (Row.later hB' bY);have dY:=Row.cell? (i:=3) (uh HBY) rfl;clear hl hP hG hFr bY hv rX hB'
    go_wp2_with fail
    go_region_held_law (fun w' =>w'.cell? ⟨c.bb,3,none⟩=some (.map (some c.bt))) (first|exact d3|exact dY|exact d6|exact d7) (first
     |(refine step_append_fresh rfl (.tmp 39) (.tmp 41) 138 rfl 0 265 i0 _ 1 8 Tryz.underlying138 hi0 hz0 hz1 hz2 rfl (by decide) v (sj.of nme).length _ (by rfl) (uh HOW) ⟨wr.heap.size,0,none⟩ 1 1 [ptrV rb i] (by rfl) (by rfl) (fun j u hj=>by rw[addr_add0];exact(uh HRX).cell? hj) (ptr_ones rb i) (by unfold maxLen;omega) (by omega) (Nat.zero_le _) ?_;intro v6 w6 hown6 hgrow6 hf6;obtain⟨w7,hrun7,hR7⟩:=entGrow (uh HGY) hij (uh HL) hll (uh HPY) (uh HV) (by omega) hown6 hgrow6 hf6;have d6:=Row.cell? (i:=3) (Row.grown (uh HBY) hgrow6 (row_ne_own (uh HBY) (uh HOW) (by decide))) rfl;obtain⟨G7,m7,f7⟩:=hR7;obtain⟨vp7,hB7,-⟩:=m7.book;have d7:=Row.cell? (i:=3) hB7 rfl;have HM7:=hide m7;have HF7:=hide f7;clear m7 f7 hB7 hown6 hgrow6 hf6)
     |fail)
    all_goals go_wp2_with fail
    all_goals go_roundw
    all_goals first
     |exact⟨j+1,by go_num,by omega,⟨G7,by rw[uh HNX];exact uh HM7,(uh HFY).trans (uh HF7)⟩⟩
     |(simp only[intN];omega)
   ·have hje:j=r.tg.length:=by omega
    subst hje;have t1:¬(r.tg.length:Int)<r.tg.length:=by omega
    have hmm:=(uh HX).mem;rw[List.take_length] at hmm;have HM:=hide hmm;clear hmm
    go_wp2_with fail
    go_end0
    exact⟨rfl,by rw[uh HEX];exact uh HM⟩
end
theorem map_ba_inj:∀{a b:List Pl.Bs},(a.map fun t=>(⟨t.toArray⟩:ByteArray))=b.map (fun t=>(⟨t.toArray⟩:ByteArray))→a=b
 |[],[],_=>rfl
 |[],_::_,h=>by cases h
 |_::_,[],h=>by cases h
 |x::a,y::b,h=>by
  simp only[List.map_cons,List.cons.injEq,ByteArray.mk.injEq] at h;rw[map_ba_inj h.2];have:=congrArg Array.toList h.1;simp only at this;rw[this]
theorem equalWords (ts us:List Pl.Bs) (b1 o1 c1 b2 o2 c2:Nat) (w:World) (h1:RdN w b1 o1 ts) (h2:RdN w b2 o2 us) (hl:ts.length≤1073741824) (hm:us.length≤1073741824):
 Calls Tryz.prog 228 #[.slice (some ⟨b1,o1,none⟩) ts.length c1,.slice (some ⟨b2,o2,none⟩) us.length c2] w fun e w' =>e= .returned (.bool (decide (ts=us)))∧Below w.heap.size w w' :=by
 have hcell:∀(b o:Nat) (xs:List Pl.Bs),RdN w b o xs→∀j,j<(xs.map fun t=>(⟨t.toArray⟩:ByteArray)).length→w.cell? ⟨b,o+j,none⟩=some (.string ((xs.map fun t=>(⟨t.toArray⟩:ByteArray)).getD j ByteArray.empty)):=fun b o xs hx j hj=>by
  rw[List.length_map] at hj;rw[hx j xs[j] (List.getElem?_eq_getElem hj)];simp[strV,hj]
 refine(Any.slices_Equal_string Tryz.lay193 b1 o1 ts.length c1 b2 o2 us.length c2 (ts.map fun t=>⟨t.toArray⟩) (us.map fun t=>⟨t.toArray⟩) w (by simp) (by simp) (by omega) (by omega) (hcell b1 o1 ts h1) (hcell b2 o2 us h2)).mono ?_
 rintro e w' ⟨rfl,q,rfl⟩
 refine⟨?_,below_drewN w q⟩;have e1:(ts.map fun t=>(⟨t.toArray⟩:ByteArray)).take ts.length=ts.map fun t=>⟨t.toArray⟩:=by rw[←List.length_map (f:=fun t=>(⟨t.toArray⟩:ByteArray)),List.take_length]
 have e2:(us.map fun t=>(⟨t.toArray⟩:ByteArray)).take us.length=us.map fun t=>⟨t.toArray⟩:=by rw[←List.length_map (f:=fun t=>(⟨t.toArray⟩:ByteArray)),List.take_length]
 rw[e1,e2]
 congr 2
 rw[decide_eq_decide];exact⟨map_ba_inj,fun e=>by rw[e]⟩
section
variable {W X:World} {F G:Foot} {c:Ad} {rb:Nat→Nat} {s:St}
theorem isPattern_any (g tO tc tb:Nat) (vn vc:Value) (tg:List Pl.Bs) (x:Pl.Bs) (hx:tg[0]?=some x) (hr:Row W g 273 [.slice (some ⟨tb,tO,none⟩) tg.length tc,vn,vc]) (ht:RdN W tb tO tg) (hg:Glob W) (hl:x.length≤4294967200):
 Calls Tryz.prog 231 #[.pointer (some ⟨g,0,none⟩)] W fun e W' =>e= .returned (.bool (placeB x))∧W' =W:=by
 have e0:=hr.cell? (i:=0) rfl;have cn:=ht 0 x hx;unfold strV at cn;rw[Nat.add_zero] at cn;have hlen:0<tg.length:=(List.getElem?_eq_some_iff.1 hx).1;have t1:(0:Int)<(tg.length:Int):=by omega
 have CP:=hide (hasPlace_any x W hg hl);clear hr ht hg hx
 go_enter Tryz.func231,Tryz.ntmps231
 go_wp2_with (first
  |(go_at_call 227;refine(uh CP).mono ?_;rintro e w1 ⟨rfl,rfl⟩)
  |fail)
 go_ret
 exact⟨rfl,rfl⟩
theorem SlF.ofOwn {v:Value} {ws:List Pl.Bs} {B:Nat} (h:X.ownsRow B 9 1 v ws.length (ws.map strV)) (hF:∀k,B≤k→k<X.heap.size→F k=none):SlF X F v ws:=by
 rcases h.2 with⟨h1,h2⟩|⟨g,cap,cur,h1,h2,h3,h4⟩
 ·exact .inl ⟨h1,List.eq_nil_of_length_eq_zero h2⟩
 ·have hlt:=(Array.getElem?_eq_some_iff.1 h3).1
  refine .inr ⟨g,0,cap,h1,hlt,hF g h2 hlt,fun j x hj=> ?_,⟨cur,_,h3⟩,h4.1⟩;rw[h1] at h;have hl:=(List.getElem?_eq_some_iff.1 hj).1;have:=own_cell h j (by rw[List.length_map];exact hl);rw[Nat.zero_add,this,List.getElem_map,(List.getElem?_eq_some_iff.1 hj).2]
theorem RdM.out (h:RdM W F c rb s) {k:Nat} (hk:W.heap.size≤k):F k=none:=by
 cases e:F k with
 |none=>rfl
 |some t=>have:=h.lt e;omega
theorem SlF.rdt {a:Option Addr} {n cap:Nat} {ws:List Pl.Bs} (h:SlF W F (.slice a n cap) ws):∃b o,0<ws.length→a=some ⟨b,o,none⟩∧RdN W b o ws∧∃cs fz,W.heap[b]?=some (Obj.cells cs 9 fz):=by
 rcases h with⟨h1,h2⟩|⟨b,o,c,h1,h2,h3,h4,h5⟩
 ·subst h2;exact⟨0,0,fun e=>by simp at e⟩
 ·cases h1;exact⟨b,o,fun _=>⟨rfl,h4,h5.1⟩⟩
theorem RdM.newRule (h:RdM W F c rb s) {w3:World} {vt v:Value} {tg nd:List Pl.Bs} (ht:SlF W F vt tg) (hb:Below W.heap.size W w3) (ho:w3.ownsRow W.heap.size 9 1 v nd.length (nd.map strV)):
 RdM (w3.alloc (.cells #[vt,v,.slice none 0 0] 273)) (F.put w3.heap.size (.rule s.rules.length)) c (rbPut rb s.rules.length w3.heap.size) {s with rules:=s.rules++[⟨tg,nd,[]⟩]}∧Fr F (F.put w3.heap.size (.rule s.rules.length)) W (w3.alloc (.cells #[vt,v,.slice none 0 0] 273)):=by
 have hs:=hb.size;have hbX:Below W.heap.size W (w3.alloc (.cells #[vt,v,.slice none 0 0] 273)):=hb.alloc hs _;have b3:=(Below.refl w3.heap.size w3).alloc (Nat.le_refl _) (.cells #[vt,v,.slice none 0 0] 273);refine h.toRule hbX hs (Row.new w3 273 [vt,v,.slice none 0 0]) ?_ ?_
 ·exact ht.same hbX.size (fun k hk e=>⟨hbX.block k hk,by unfold Foot.put;rw[if_neg (by omega)];exact e⟩)
 ·refine SlF.same (F:=F) (W:=w3) ?_ b3.size (fun k hk e=>⟨b3.block k hk,by unfold Foot.put;rw[if_neg (by omega)];exact e⟩)
  exact SlF.ofOwn ho (fun k hk _=>h.out hk)
theorem patGrow (h:RdM W F c rb s) {i:Nat} {vp v' :Value} (hi:i<s.rules.length) (hB:BkR W c.bb c.nm c.bt c.pb vp s.first) (hP:PRow W F .pats vp rb s.pats) (hown:X.ownsRow 0 265 1 v' (s.pats.length+1) (s.pats.map (ptrV rb)++[ptrV rb i])) (hg:W.grownBy X vp.ownBlock) (hf:v'.ownBlock=vp.ownBlock∨v'.ownBlock=some W.heap.size):
 BkR X c.bb c.nm c.bt c.pb vp s.first∧∃G,RdM (X.setCell ⟨c.bb,1,none⟩ v') G c rb {s with pats:=s.pats++[i]}∧Fr F G W (X.setCell ⟨c.bb,1,none⟩ v'):=
 ⟨Row.grown hB hg (row_ne_own hB hP.1 (by decide)),_,h.toPat hi hB hP hown hg hf⟩
theorem RdM.patStep (h:RdM W F c rb s) {w3:World} {vt v:Value} {tg nd:List Pl.Bs} (ht:SlF W F vt tg) (hb:Below W.heap.size W w3) (ho:w3.ownsRow W.heap.size 9 1 v nd.length (nd.map strV)):
 ∃vp,(w3.alloc (.cells #[vt,v,.slice none 0 0] 273)).cell? ⟨c.bb,1,none⟩=some vp∧
  ((w3.alloc (.cells #[vt,v,.slice none 0 0] 273)).alloc (.cells #[.pointer (some ⟨w3.heap.size,0,none⟩)] 265)).ownsRow 0 265 1 vp s.pats.length (s.pats.map (ptrV (rbPut rb s.rules.length w3.heap.size)))∧
  Row ((w3.alloc (.cells #[vt,v,.slice none 0 0] 273)).alloc (.cells #[.pointer (some ⟨w3.heap.size,0,none⟩)] 265)) (w3.heap.size+1) 265 [.pointer (some ⟨w3.heap.size,0,none⟩)]∧
  ∀v6 w6,w6.ownsRow 0 265 1 v6 (s.pats.length+1) (s.pats.map (ptrV (rbPut rb s.rules.length w3.heap.size))++[.pointer (some ⟨w3.heap.size,0,none⟩)])→((w3.alloc (.cells #[vt,v,.slice none 0 0] 273)).alloc (.cells #[.pointer (some ⟨w3.heap.size,0,none⟩)] 265)).grownBy w6 vp.ownBlock→
   (v6.ownBlock=vp.ownBlock∨v6.ownBlock=some ((w3.alloc (.cells #[vt,v,.slice none 0 0] 273)).alloc (.cells #[.pointer (some ⟨w3.heap.size,0,none⟩)] 265)).heap.size)→
   w6.cell? ⟨c.bb,1,none⟩=some vp∧w6.frozen? ⟨c.bb,1,none⟩=false∧∃G,RdM (w6.setCell ⟨c.bb,1,none⟩ v6) G c (rbPut rb s.rules.length w3.heap.size) {s with rules:=s.rules++[⟨tg,nd,[]⟩],pats:=s.pats++[s.rules.length]}∧Fr F G W (w6.setCell ⟨c.bb,1,none⟩ v6):=by
 obtain⟨m1,f1⟩:=h.newRule ht hb ho;obtain⟨vp,hB,hP⟩:=m1.book;have bY:=(Below.refl (w3.alloc (.cells #[vt,v,.slice none 0 0] 273)).heap.size (w3.alloc (.cells #[vt,v,.slice none 0 0] 273))).alloc (Nat.le_refl _) (.cells #[.pointer (some ⟨w3.heap.size,0,none⟩)] 265);have hP2:=hP.later bY (fun k e=>m1.lt e);have hB2:=Row.later hB bY
 have hrow:=Row.new (w3.alloc (.cells #[vt,v,.slice none 0 0] 273)) 265 [.pointer (some ⟨w3.heap.size,0,none⟩)];rw[World.size_alloc] at hrow;have e1:ptrV (rbPut rb s.rules.length w3.heap.size) s.rules.length= .pointer (some ⟨w3.heap.size,0,none⟩):=by unfold ptrV rbPut;rw[if_pos rfl]
 refine⟨vp,Row.cell? (i:=1) hB rfl,hP2.1,hrow,fun v6 w6 hown hg hf=> ?_⟩;rw[←e1] at hown;obtain⟨x1,G,m6,f6⟩:=patGrow (i:=s.rules.length) (m1.later bY) (by simp) hB2 hP2 hown hg hf;exact⟨Row.cell? (i:=1) x1 rfl,Row.frozen x1 1,G,m6,(f1.trans (Fr.later bY)).trans f6⟩
theorem add_any (tg nd:List Pl.Bs) (vt vn:Value) (h:RdM W F c rb s) (ht:SlF W F vt tg) (hn:SlF W F vn nd) (hne:tg≠[]) (hg:Glob W) (htl:tg.length≤2000) (hnl:nd.length≤2000) (htw:∀x∈tg,x.length≤2000) (hph:s.ph.length≤1000000) (htt:s.tl≤1000000) (hol:∀n,(s.of n).length≤s.tl) (hpl:s.pats.length≤1000000):
 Calls Tryz.prog 184 #[.pointer (some ⟨c.bb,0,none⟩),vt,vn] W fun e W' =>∃G rb',e= .returned (opV rb' (addF s tg nd).1)∧RdM W' G c rb' (addF s tg nd).2∧Fr F G W W' :=by
 obtain⟨i0,hi0,hz0,hz1,hz2⟩:=info_parts Tryz.infoPtr
 rcases ht with⟨-,q⟩|⟨tb,tO,tc,rfl,hb1,hb2,hb3,hb4⟩
 ·exact absurd q hne
 have ht:SlF W F (.slice (some ⟨tb,tO,none⟩) tg.length tc) tg:= .inr ⟨tb,tO,tc,rfl,hb1,hb2,hb3,hb4⟩;obtain⟨an,cn,rfl⟩:=hn.sls.sh;have b1:=(Below.refl W.heap.size W).alloc (Nat.le_refl _) (.cells #[.string ⟨#[46,80,72,79,78,89]⟩] 9)
 have r1:RdN (W.alloc (.cells #[.string ⟨#[46,80,72,79,78,89]⟩] 9)) W.heap.size 0 [phonyB]:=fun j x hj=>by
  have:=(Row.new W 9 [.string ⟨#[46,80,72,79,78,89]⟩]).cell? (i:=j) (v:=strV x) (by cases j with|zero=>(cases hj;rfl)|succ j=>cases hj);rw[Nat.zero_add];exact this
 have CE:=hide (equalWords tg [phonyB] tb tO tc W.heap.size 0 1 (W.alloc (.cells #[.string ⟨#[46,80,72,79,78,89]⟩] 9)) (hb3.below b1 hb1) r1 (by omega) (by simp));have hlen:0<tg.length:=List.length_pos_iff.2 hne
 by_cases hp:tg=[phonyB]
 ·rw[decide_eq_true hp] at CE
  have hA:addF s tg nd=(none,{s with ph:=nd.foldl phAdd s.ph}):=by unfold addF;rw[if_pos hp]
  rw[hA]
  have CP:Hid (∀w,Below W.heap.size W w→Calls Tryz.prog 229 #[.pointer (some ⟨c.bb,0,none⟩),.slice an nd.length cn] w fun e w' =>e= .returned (.tuple #[])∧RdM w' F c rb {s with ph:=nd.foldl phAdd s.ph}∧Fr F F W w'):=fun w hw=>by
   have h' :=h.later hw;obtain⟨vp,hB,-⟩:=h'.book;obtain⟨nb,no,hnb⟩:=(hn.later hw).rdt;refine(addPhony_any c.bb c.nm c.bt c.pb vp s.first s.ph nd an cn nb no w hB h'.phony hnb (by omega)).mono ?_
   rintro e w1 ⟨rfl,hs1,ht1⟩
   obtain⟨m,f⟩:=h'.toPhony ht1 hs1;exact⟨rfl,m,(Fr.later hw).trans f⟩
  have HB1:=hide b1;clear h ht hn hb3 hb4 r1 b1 hA hp hne hg
  go_enter Tryz.func184,Tryz.ntmps184
  go_wp2_with (first
   |(go_at_call 228;refine(uh CE).mono ?_;clear CE;rintro e w1 ⟨rfl,hb1'⟩;have HB2:=hide ((uh HB1).trans (hb1'.mono (uh HB1).size));clear hb1')
   |(go_at_call 229;refine(uh CP _ (uh HB2)).mono ?_;clear CP;rintro e w2 ⟨rfl,hm2,hf2⟩;have HM2:=hide hm2;have HF2:=hide hf2;clear hm2 hf2)
   |fail)
  go_ret
  exact⟨F,rb,rfl,uh HM2,uh HF2⟩
 ·rw[decide_eq_false hp] at CE
  have CO:Hid (∀w,Below W.heap.size W w→Calls Tryz.prog 230 #[.slice (some ⟨w.heap.size,0,none⟩) 1 1] (w.alloc (.cells #[.slice an nd.length cn] 30)) fun e w' =>∃v,e= .returned v∧w'.ownsRow W.heap.size 9 1 v (onceB nd []).length ((onceB nd []).map strV)∧Below W.heap.size W w'):=fun w hw=>by
   have b2:=(Below.refl w.heap.size w).alloc (Nat.le_refl _) (.cells #[.slice an nd.length cn] 30);have hfl:[nd].flatten=nd:=by simp
   have hC:=once_any [nd] (some ⟨w.heap.size,0,none⟩) 1 w.heap.size 0 (w.alloc (.cells #[.slice an nd.length cn] 30)) (fun _=>⟨rfl,by simp,fun j x hj=> ?_⟩) (by simp) (by rw[hfl];omega)
   ·rw[hfl] at hC
    refine hC.mono ?_
    rintro e w' ⟨v,rfl,ho,hb⟩
    have hs:=hw.size;have e1:=World.size_alloc w (.cells #[.slice an nd.length cn] 30);exact⟨v,rfl,own_base ho (by omega),((hw.trans (b2.mono hs)).trans (hb.mono (by omega)))⟩
   ·cases j with
    |zero=>
     cases hj;exact⟨_,(Row.new w 30 [.slice an nd.length cn]).cell? (i:=0) rfl,((hn.later hw).later b2).sls⟩
    |succ j=>cases hj
  have HP:=hide (fun w3 v (hb:Below W.heap.size W w3) (ho:w3.ownsRow W.heap.size 9 1 v (onceB nd []).length ((onceB nd []).map strV))=>h.patStep ht hb ho)
  have CX:Hid (∀w3 v,Below W.heap.size W w3→w3.ownsRow W.heap.size 9 1 v (onceB nd []).length ((onceB nd []).map strV)→Calls Tryz.prog 232 #[.pointer (some ⟨c.bb,0,none⟩),.pointer (some ⟨w3.heap.size,0,none⟩)] (w3.alloc (.cells #[.slice (some ⟨tb,tO,none⟩) tg.length tc,v,.slice none 0 0] 273)) fun e W' =>e= .returned (.tuple #[])∧∃G,RdM W' G c (rbPut rb s.rules.length w3.heap.size) (explicitF {s with rules:=s.rules++[⟨tg,onceB nd [],[]⟩]} tg s.rules.length)∧Fr F G W W'):=fun w3 v hb ho=>by
   obtain⟨m1,f1⟩:=h.newRule ht hb ho;have e1:ptrV (rbPut rb s.rules.length w3.heap.size) s.rules.length= .pointer (some ⟨w3.heap.size,0,none⟩):=by unfold ptrV rbPut;rw[if_pos rfl]
   rw[←e1];refine(explicit_any s.rules.length ⟨tg,onceB nd [],[]⟩ m1 (by simp) hne (by simp only;omega) hol).mono ?_
   rintro e w5 ⟨rfl,G,m5,f5⟩
   exact⟨rfl,G,m5,f1.trans f5⟩
  have HB1:=hide b1;have hx0:=List.getElem?_eq_getElem hlen;have hhd:tg.headD []=tg[0]:=headD_get _ hlen
  have hA:addF s tg nd=if placeB tg[0]=true then(some s.rules.length,{s with rules:=s.rules++[⟨tg,onceB nd [],[]⟩],pats:=s.pats++[s.rules.length]}) else(some s.rules.length,explicitF {s with rules:=s.rules++[⟨tg,onceB nd [],[]⟩]} tg s.rules.length):=by
   unfold addF;rw[if_neg hp,hhd]
  rw[hA]
  have CI:Hid (∀w3 v,Below W.heap.size W w3→Calls Tryz.prog 231 #[.pointer (some ⟨w3.heap.size,0,none⟩)] (w3.alloc (.cells #[.slice (some ⟨tb,tO,none⟩) tg.length tc,v,.slice none 0 0] 273)) fun e w' =>e= .returned (.bool (placeB tg[0]))∧w' =(w3.alloc (.cells #[.slice (some ⟨tb,tO,none⟩) tg.length tc,v,.slice none 0 0] 273))):=fun w3 v hb=>by
   have hbX:=hb.alloc hb.size (.cells #[.slice (some ⟨tb,tO,none⟩) tg.length tc,v,.slice none 0 0] 273);exact isPattern_any w3.heap.size tO tc tb v (.slice none 0 0) tg tg[0] hx0 (Row.new w3 273 [_,_,_]) (hb3.below hbX hb1) (hg.later hbX) (by have:=htw _ (List.getElem_mem hlen);omega)
  clear h ht hn hb3 hb4 r1 b1 hA hx0 hhd;generalize placeB tg[0]=pb at*;cases pb with
  |true=>
   rw[if_pos rfl]
   go_enter Tryz.func184,Tryz.ntmps184
   go_wp2_with (first
    |(go_at_call 228;refine(uh CE).mono ?_;clear CE;rintro e w1 ⟨rfl,hb1'⟩;have HB2:=hide ((uh HB1).trans (hb1'.mono (uh HB1).size));clear hb1')
    |(go_at_call 230;refine(uh CO _ (uh HB2)).mono ?_;clear CO;rintro e w3 ⟨v3,rfl,ho3,hb3⟩;obtain⟨vp,p1,p2,p3,p4⟩:=uh HP w3 v3 hb3 ho3;obtain⟨ap,cp,hvp⟩:=own_sh p2;have HP2:=hide p2;have HP3:=hide p3;have HP4:=hide p4;have CI3:=hide (uh CI w3 v3 hb3);obtain⟨a3,c3,hv3⟩:=own_sh ho3;subst hvp hv3;clear ho3 hb3 CI p2 p3 p4)
    |(go_at_call 231;refine(uh CI3).mono ?_;clear CI3;rintro e w4 ⟨rfl,rfl⟩)
    |(at_builtin;refine wpList_append_own_at _ rfl (.tmp 26) (.tmp 28) 138 rfl 0 265 i0 (.pointer none) 1 8 Tryz.underlying138 hi0 hz0 hz1 hz2 rfl (by decide) _ s.pats.length _ rfl (uh HP2) ⟨w3.heap.size+1,0,none⟩ 1 1 [.pointer (some ⟨w3.heap.size,0,none⟩)] rfl (by simp) (fun j u hj=>by rw[addr_add0];exact(uh HP3).cell? hj) (by intro u hu;rw[List.mem_singleton] at hu;subst hu;rfl) (by unfold maxLen;omega) (by omega) (Nat.zero_le _) ?_;intro v6 w6 hown6 hgrow6 _ hf6;obtain⟨a6,c6,rfl⟩:=own_sh hown6;obtain⟨y1,y2,hR6⟩:=uh HP4 _ w6 hown6 hgrow6 hf6;have HR6:=hide hR6;clear hR6 hown6 hgrow6 hf6)
    |fail)
   go_ret
   obtain⟨G6,m6,f6⟩:=uh HR6;exact⟨G6,_,by unfold opV ptrV rbPut;simp,m6,f6⟩
  |false=>
   rw[if_neg (by simp)]
   go_enter Tryz.func184,Tryz.ntmps184
   go_wp2_with (first
    |(go_at_call 228;refine(uh CE).mono ?_;clear CE;rintro e w1 ⟨rfl,hb1'⟩;have HB2:=hide ((uh HB1).trans (hb1'.mono (uh HB1).size));clear hb1')
    |(go_at_call 230;refine(uh CO _ (uh HB2)).mono ?_;clear CO;rintro e w3 ⟨v3,rfl,ho3,hb3⟩;have CX3:=hide (uh CX w3 v3 hb3 ho3);have CI3:=hide (uh CI w3 v3 hb3);obtain⟨a3,c3,hv3⟩:=own_sh ho3;subst hv3;clear ho3 hb3 CI CX)
    |(go_at_call 231;refine(uh CI3).mono ?_;clear CI3;rintro e w4 ⟨rfl,rfl⟩)
    |(go_at_call 232;refine(uh CX3).mono ?_;clear CX3;rintro e w5 ⟨rfl,G5,m5,f5⟩;have HM5:=hide m5;have HF5:=hide f5;clear m5 f5)
    |fail)
   go_ret
   exact⟨G5,_,by unfold opV ptrV rbPut;simp,uh HM5,uh HF5⟩
end
end Go.Proofs.YtjelacjggijmfaaGreatDoor
