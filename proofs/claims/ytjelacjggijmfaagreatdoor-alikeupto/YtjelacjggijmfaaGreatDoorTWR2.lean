/-
  A plan is written: what pushes whether a node is stale.
-/
import Derived.Test.YtjelacjggijmfaaGreatDoorTSP9
import Derived.Test.YtjelacjggijmfaaGreatDoorTSP2
import Derived.Deep.RegionHeld3
import Derived.Deep.RegionLaw
set_option maxHeartbeats 4000000
set_option maxRecDepth 100000
namespace Go.Proofs.YtjelacjggijmfaaGreatDoor
open Go.RowKit Go.MapKept Go.ChangeMaps Go.Maps
theorem mput_absent:∀(l:Ents) (k:Pl.Bs) (v:Value),mget l k=none→mput l k v=l++[(k,v)]
 |[],_,_,_=>rfl
 |x::r,k,v,h=>by
  unfold mget at h;simp only[Option.map_eq_none_iff,List.find?_cons] at h;cases hx:(x.1==k) with
  |true=>rw[hx] at h;simp at h
  |false=>
   rw[hx] at h;rw[mput,hx];show x::mput r k v=_;rw[mput_absent r k v (by unfold mget;simp only[Option.map_eq_none_iff];exact h)];rfl
theorem mget_zip (s:Pl.Bs):∀(ss:List Pl.Bs) (n:Nat),mget ((ss.zipIdx n).map fun x=>(x.1,Value.int .i64 x.2)) s=(ss.findIdx? (fun x=>x==s)).map fun i=> .int .i64 ((n+i:Nat):Int)
 |[],_=>rfl
 |x::r,n=>by
  rw[List.zipIdx_cons,List.map_cons,List.findIdx?_cons];unfold mget;rw[List.find?_cons];cases hx:(x==s) with
  |true=>simp
  |false=>
   have:=mget_zip s r (n+1);unfold mget at this;simp only[Bool.false_eq_true,if_false];rw[this];cases List.findIdx? (fun x=>x==s) r with
   |none=>rfl
   |some i=>simp;omega
theorem mget_num (ss:List Pl.Bs) (s:Pl.Bs):mget (numEnts ss) s=(ss.findIdx? (fun x=>x==s)).map fun i=> .int .i64 (i:Int):=by
 unfold numEnts;rw[mget_zip];cases List.findIdx? (fun x=>x==s) ss with
 |none=>rfl
 |some i=>simp
theorem num_snoc (ss:List Pl.Bs) (s:Pl.Bs):numEnts (ss++[s])=numEnts ss++[(s,.int .i64 (ss.length:Int))]:=by
 unfold numEnts;rw[List.zipIdx_append,List.map_append];simp
structure WrT (wb nb:Nat) (vs vc vs' vc' :Value) (W W' :World):Prop where
 tn:Tn (fun k=>k=wb∨k=nb∨some k=vs.ownBlock∨some k=vc.ownBlock) W W'
 fs:Fresh W vs vs'
 fc:Fresh W vc vc'
section
variable {wb nb:Nat} {vs vc vs1 vc1 vs2 vc2:Value} {W W1 W2:World}
theorem WrT.refl (W:World):WrT wb nb vs vc vs vc W W:=⟨Tn.refl _ _,fun _ e=> .inl e,fun _ e=> .inl e⟩
theorem WrT.trans (h:WrT wb nb vs vc vs1 vc1 W W1) (g:WrT wb nb vs1 vc1 vs2 vc2 W1 W2):WrT wb nb vs vc vs2 vc2 W W2:=by
 have hs:=h.tn.size;refine⟨⟨g.tn.os.trans h.tn.os,g.tn.tape.trans h.tn.tape,g.tn.output.trans h.tn.output,Nat.le_trans hs g.tn.size,fun k hk hp=>(g.tn.block k (by omega) (fun e=>hp ?_)).trans (h.tn.block k hk hp)⟩,fun k hk=> ?_,fun k hk=> ?_⟩
 ·rcases e with e|e|e|e
  ·exact .inl e
  ·exact .inr (.inl e)
  ·rcases h.fs k e.symm with e' |e'
   ·exact .inr (.inr (.inl e'.symm))
   ·omega
  ·rcases h.fc k e.symm with e' |e'
   ·exact .inr (.inr (.inr e'.symm))
   ·omega
 ·rcases g.fs k hk with e|e
  ·exact h.fs k e
  ·exact .inr (by omega)
 ·rcases g.fc k hk with e|e
  ·exact h.fc k e
  ·exact .inr (by omega)
end
theorem row_ne_map' {W:World} {b k:Nat} {t:TypeId} {vs:List Value} {l:Ents} (h:Row W b t vs) (g:SMap W k l):b≠k:=fun e=>by
 obtain⟨es,clock,hk,_⟩:=g;subst e;unfold Row at h;rw[h] at hk;cases hk
theorem map_tn {w w' :World} {b:Nat} {p:Nat→Prop} (h:w.mapTurned w' b) (hp:p b):Tn p w w' :=by
 obtain⟨es,clock,es',clock',hb,rfl⟩:=h;refine⟨rfl,rfl,rfl,by simp[setBlock],fun k hk hn=> ?_⟩;have:k≠b:=fun e=>hn (e▸hp)
 simp[setBlock,Ne.symm this]
theorem WrM.addStr {W w1 w2:World} {B wb nb:Nat} {p:Cp.Wr} {vs vc vs' :Value} {s:Pl.Bs} {o:Obj} (h:WrM W B wb nb p vs vc) (hf:mget (numEnts p.strs) s=none) (hs:SMap w1 nb (mput (numEnts p.strs) s (.int .i64 (p.strs.length:Int)))) (ht:W.mapTurned w1 nb) (hg:(w1.alloc o).grownBy w2 vs.ownBlock)
 (hown:w2.ownsRow B 9 1 vs' (p.strs.length+1) (p.strs.map strV++[strV s])) (hfr:∀k,vs'.ownBlock=some k→vs.ownBlock=some k∨W.heap.size≤k):WrM (w2.setCell ⟨wb,1,none⟩ vs') B wb nb ⟨p.strs++[s],p.code,p.failed⟩ vs' vc∧WrT wb nb vs vc vs' vc W (w2.setCell ⟨wb,1,none⟩ vs'):=by
 have hwn:=row_ne_map' h.row h.nums;have htn:=map_tn (p:=fun k=>k=nb) ht rfl;have hal:∀k,k<w1.heap.size→(w1.alloc o).heap[k]?=w1.heap[k]?:=fun k hk=>Below.heap_alloc w1 o k hk
 have hsz:(w1.alloc o).heap.size=w1.heap.size+1:=World.size_alloc _ _;have hs1:=htn.size;have key:∀k,k<W.heap.size→k≠nb→some k≠vs.ownBlock→w2.heap[k]?=W.heap[k]?:=fun k hk h1 h2=>(hg.block k (by omega) h2).trans ((hal k (by omega)).trans (htn.block k hk h1))
 have hset:∀k,k≠wb→(w2.setCell ⟨wb,1,none⟩ vs').heap[k]?=w2.heap[k]?:=fun k hk=>Below.heap_setCell w2 ⟨wb,1,none⟩ _ k hk
 have hvne:∀b,b<B→some b≠vs.ownBlock:=fun b hb=>own_ne h.strs hb
 have hrow2:Row w2 wb 281 [.map (some nb),vs,vc,.bool p.failed]:=(key wb h.row.lt hwn (hvne wb h.wB)).trans h.row;rw[mput_absent _ _ _ hf,←num_snoc] at hs;refine⟨⟨hrow2.set 1 vs',?_,?_,?_,h.wB,h.nB⟩,⟨⟨?_,?_,?_,?_,fun k hk hp=> ?_⟩,hfr,fun _ e=> .inl e⟩⟩
 ·refine hs.of_block ((hset nb (fun e=>hwn e.symm)).trans ((hg.block nb ?_ (hvne nb h.nB)).trans (hal nb hs.lt)))
  have:=hs.lt;omega
 ·have:w2.ownsRow B 9 1 vs' (p.strs++[s]).length ((p.strs++[s]).map strV):=by simpa using hown
  exact owns_other this (own_ne this h.wB) _ _
 ·refine own_same h.code (fun k hk=> ?_)
  have hkl:=h.code.lt k hk
  have hne:some k≠vs.ownBlock:=fun e=>by
   obtain⟨c1,f1,q1⟩:=own_type h.code k hk;obtain⟨c2,f2,q2⟩:=own_type h.strs k e.symm;rw[q1] at q2;cases q2
  have h1:k≠wb:=by have:=h.wB;omega
  have h2:k≠nb:=by have:=h.nB;omega
  exact(hset k h1).trans (key k hkl.2 h2 hne)
 ·exact hg.os.trans htn.os
 ·exact hg.tape.trans htn.tape
 ·exact hg.output.trans htn.output
 ·have:=hg.size
  simp;omega
 ·simp only[not_or] at hp
  exact(hset k hp.1).trans (key k hk hp.2.1 hp.2.2.1)
theorem wrString_any (B wb nb:Nat) (p:Cp.Wr) (vs vc:Value) (s:Pl.Bs) (W:World) (h:WrM W B wb nb p vs vc) (hB:B≤W.heap.size) (hl:p.strs.length≤1048576):
 Calls Tryz.prog 101 #[.pointer (some ⟨wb,0,none⟩),.string ⟨s.toArray⟩] W fun e W' =>e= .returned (.int .i64 (p.num s))∧∃vs',WrM W' B wb nb (p.str s) vs' vc∧WrT wb nb vs vc vs' vc W W' :=by
 obtain⟨i0,hi0,hz0,hz1,hz2⟩:=info_parts Tryz.infoStr;obtain⟨sa,sc,hvs⟩:=own_sh h.strs;subst hvs;have c0:=h.row.cell? (i:=0) rfl;have c1:=h.row.cell? (i:=1) rfl;have zi:∀w,(zeroValue 3).run Tryz.prog w= .ok (.int .i64 0) w:=fun w=>by kernel_rfl
 have hmg:=mget_num p.strs s;have HM:=hide h;cases hf:p.strs.findIdx? (fun x=>x==s) with
 |some i=>
  have e1:p.num s=i:=by unfold Cp.Wr.num;rw[hf];rfl
  have e2:p.str s=p:=by unfold Cp.Wr.str;rw[hf]
  rw[hf] at hmg;rw[e1,e2];have hmg' :mget (numEnts p.strs) s=some (.int .i64 (i:Int)):=hmg;clear h hmg
  go_enter Tryz.func101,Tryz.ntmps101
  go_wp2_with (first
   |(at_lookup;refine wpList_look_ok_yes _ rfl _ _ 179 rfl 9 3 Tryz.underlying179 Tryz.underlying9 (.int .i64 0) (zi _) nb (numEnts p.strs) rfl (uh HM).nums s rfl _ hmg' ?_)
   |fail)
  go_ret
  exact⟨rfl,_,uh HM,WrT.refl _⟩
 |none=>
  have e1:p.num s=p.strs.length:=by unfold Cp.Wr.num;rw[hf];rfl
  have e2:p.str s=⟨p.strs++[s],p.code,p.failed⟩:=by unfold Cp.Wr.str;rw[hf]
  rw[hf] at hmg;rw[e1,e2];have hmg' :mget (numEnts p.strs) s=none:=hmg;have hwn:=row_ne_map' h.row h.nums;have hwB:=h.wB;have hnB:=h.nB;have hnl:(numEnts p.strs).length<maxLen:=by unfold numEnts maxLen;rw[List.length_map,List.length_zipIdx];omega
  clear h hmg
  go_enter Tryz.func101,Tryz.ntmps101
  go_wp2_with (first
   |(at_lookup;refine wpList_look_ok_no _ rfl _ _ 179 rfl 9 3 Tryz.underlying179 Tryz.underlying9 (.int .i64 0) (zi _) nb (numEnts p.strs) rfl (uh HM).nums s rfl hmg' ?_)
   |(at_mapUpdate;refine wpList_put_s _ rfl _ _ _ 179 rfl 9 3 Tryz.underlying179 Tryz.underlying9 nb (numEnts p.strs) rfl (uh HM).nums hnl s rfl _ rfl ?_;intro w1 hs1 ht1;have hr1:=(uh HM).row.tn (map_tn (p:=fun k=>k=nb) ht1 rfl) hwn;have d1:=hr1.cell? (i:=1) rfl;have hs1z:=(map_tn (p:=fun k=>k=nb) ht1 rfl).size;have HO1:=hide (own_same (uh HM).strs (fun k hk=>(map_tn (p:=fun k=>k=nb) ht1 rfl).block k ((uh HM).strs.lt k hk).2 (by have:=((uh HM).strs.lt k hk).1;omega)));have HR1:=hide hr1;have HS1:=hide hs1;have HT1:=hide ht1;clear hs1 ht1 hr1)
   |(at_builtin;refine wpList_append_own_at _ rfl (.tmp 33) (.tmp 35) 30 rfl B 9 i0 (.string ⟨#[]⟩) 1 16 Tryz.underlying30 hi0 hz0 hz1 hz2 rfl (by decide) _ p.strs.length _ rfl (World.ownsRow.alloc (uh HO1) _) ⟨_,0,none⟩ 1 1 [.string ⟨s.toArray⟩] rfl rfl (cells_new _ _ [_]) (one_one _) (by unfold maxLen;omega) (by omega) (by rw[World.size_alloc];omega) ?_;intro v1 w2 hown1 hgrow1 hnil1 hat1;obtain⟨q1,q2,rfl,-,-⟩:=owns_form hown1 (by omega);have hr2:=(uh HR1).grown ((World.grownBy_alloc w1 _ _).trans hgrow1) (own_ne (uh HM).strs hwB);have e1' :=hr2.cell? (i:=1) rfl;have e2' :=hr2.frozen 1;have HE:=hide ((uh HM).addStr (s:=s) hmg' (uh HS1) (uh HT1) hgrow1 hown1 (fun k hk=>by rcases hat1 with e|e;exact .inl (e▸hk);(rw [e] at hk;cases hk;exact .inr (by rw[World.size_alloc];omega))));clear hown1 hgrow1 hnil1 hat1 hr2)
   |fail)
  go_ret
  exact⟨rfl,_,uh HE⟩
theorem step_append_fresh {P:Program} {ops:Array Oper} {o:Oper} {a:Act} {w:World} {K:Act→World→Prop} {Q:Exit→Act→World→Prop} {E:Prop}
 (hg:o.guard=none) (s x:Operand) (t:TypeId) (hop:o.op=Op.call {callee:=Callee.builtin Builtin.append,args:= #[s,x],argTypes:= #[t,t]})
 (base:Nat) (e:TypeId) (i:TypeInfo) (z:Value) (size bytes:Nat) (h1:P.underlying t=some (.slice e)) (h2:P.info? e=some i) (h3:i.zero=some z) (h4:i.size=size) (h5:i.bytes=bytes) (h6:z.cells.size=size) (h7:0<size)
 (v:Value) (n:Nat) (xs:List Value) (hs:a.eval s=v) (hown:w.ownsRow base e size v n xs)
 (ad:Addr) (m c:Nat) (news:List Value) (hx:a.eval x= .slice (some ad) m c) (hn:news.length=m*size) (hc:∀j u,news[j]?=some u→w.cell? (ad.add j)=some u) (h1c:∀u∈news,u.oneCell' =true)
 (b1:n+m≤maxLen) (b2:(n+m)*bytes≤140737488355328) (hbase:base≤w.heap.size)
 (hK:∀v' w',w'.ownsRow base e size v' (n+m) (xs++news)→w.grownBy w' v.ownBlock→(v'.ownBlock=v.ownBlock∨v'.ownBlock=some w.heap.size)→K (a.put o.dst v') w'):
 if Region.wanted o (yielded ops a.tmps)=true then Oper.wp P o a w K Q else E:=by
 have hw:Region.wanted o (yielded ops a.tmps)=true:=by simp[Region.wanted,hg]
 rw[if_pos hw];obtain⟨v',w',hrun,r1,r2,_,r4⟩:=run_append_own_at (P:=P) w base t o.type e i z size bytes h1 h2 h3 h4 h5 h6 h7 v n xs hown ad m c news hn hc h1c b1 b2 hbase;unfold Oper.wp;simp[execOp,hop,resolve,invoke,builtin,hs,hx,hrun,Result.andThen];exact hK v' w' r1 r2 r4
theorem WrM.codeTo {W Z:World} {B wb nb:Nat} {p:Cp.Wr} {vs vc vc' :Value} {code' :Pl.Bs} {f' :Bool} (h:WrM W B wb nb p vs vc) (hrow:Row Z wb 281 [.map (some nb),vs,vc',.bool f']) (hown:Z.ownsRow B 5 1 vc' code'.length (Lib.byteCells code')) (ht:Tn (fun k=>k=wb∨some k=vc.ownBlock) W Z) (hf:Fresh W vc vc'):WrM Z B wb nb ⟨p.strs,code',f'⟩ vs vc' ∧WrT wb nb vs vc vs vc' W Z:=by
 have hwn:=row_ne_map' h.row h.nums;refine⟨⟨hrow,h.nums.tn ht (fun e=>e.elim (fun e=>hwn e.symm) (own_ne h.code h.nB)),own_same h.strs (fun k hk=>ht.block k (h.strs.lt k hk).2 (fun e=> ?_)),hown,h.wB,h.nB⟩,ht.mono (fun k e=>e.elim .inl (fun e=> .inr (.inr (.inr e)))),fun _ e=> .inl e,hf⟩
 rcases e with e|e
 ·have h1:=(h.strs.lt k hk).1
  have h2:=h.wB;omega
 ·obtain⟨c1,f1,q1⟩:=own_type h.code k e.symm
  obtain⟨c2,f2,q2⟩:=own_type h.strs k hk;rw[q1] at q2;cases q2
theorem WrM.addCode {W W1 w2:World} {B wb nb:Nat} {p:Cp.Wr} {vs vc vc' :Value} {bs:Pl.Bs} {f' :Bool} (h:WrM W B wb nb p vs vc) (ht1:Tn (fun k=>k=wb) W W1) (hr1:Row W1 wb 281 [.map (some nb),vs,vc,.bool f']) (hg:W1.grownBy w2 vc.ownBlock) (hown:w2.ownsRow B 5 1 vc' (p.code.length+bs.length) (Lib.byteCells p.code++Lib.byteCells bs)) (hf:∀k,vc'.ownBlock=some k→vc.ownBlock=some k∨W.heap.size≤k):
 WrM (w2.setCell ⟨wb,2,none⟩ vc') B wb nb ⟨p.strs,p.code++bs,f'⟩ vs vc' ∧WrT wb nb vs vc vs vc' W (w2.setCell ⟨wb,2,none⟩ vc'):=by
 have hne:=own_ne h.code h.wB;have hrow2:=(hr1.grown hg hne).set 2 vc';have hown' :w2.ownsRow B 5 1 vc' (p.code++bs).length (Lib.byteCells (p.code++bs)):=by rw[Lib.byteCells_append,List.length_append];exact hown
 refine h.codeTo hrow2 (owns_other hown' (own_ne hown' h.wB) _ _) ?_ hf;exact((ht1.mono (fun k e=> .inl e)).trans (Tn.grown hg (fun k e=> .inr e.symm))).trans (Tn.set w2 ⟨wb,2,none⟩ _ (.inl rfl))
def wdAt (op i:Nat):Nat:=if i=0 then wd1 op else wd2 op
def addAt (p:Cp.Wr) (op:Nat) (os:List Nat):Nat→Cp.Wr
 |0=>p.op op
 |i+1=>(addAt p op os i).put (os.getD i 0) (wdAt op i)
theorem wdAt_le (op i:Nat):wdAt op i≤2:=by
 unfold wdAt wd1 wd2
 repeat' split
 all_goals omega
theorem beB_len (n k:Nat) (h:k≤2):(Cp.beB n k).length=k:=by
 match k,h with
 |0,_=>rfl
 |1,_=>rfl
 |2,_=>rfl
theorem addAt_len (p:Cp.Wr) (op:Nat) (os:List Nat):∀i,(addAt p op os i).code.length≤p.code.length+1+2*i
 |0=>by show(p.code++[UInt8.ofNat op]).length≤_;simp
 |i+1=>by
  have:=addAt_len p op os i;show((addAt p op os i).code++Cp.beB _ _).length≤_;rw[List.length_append,beB_len _ _ (wdAt_le op i)];have:=wdAt_le op i;omega
theorem byte_one (bs:Pl.Bs):∀u∈Lib.byteCells bs,u.oneCell' =true:=fun u hu=>by
 unfold Lib.byteCells at hu;obtain⟨x,_,rfl⟩:=List.mem_map.1 hu;rfl
theorem one_u8 (n:Int):∀u∈[Value.int .u8 n],u.oneCell' =true:=fun u hu=>by
 simp only[List.mem_singleton] at hu;subst hu;rfl
theorem row_types {W:World} {b:Nat} {t u:TypeId} {vs:List Value} {B s n:Nat} {v:Value} {xs:List Value} (h:Row W b t vs) (g:W.ownsRow B u s v n xs) (ht:t≠u):some b≠v.ownBlock:=fun e=>by
 obtain⟨c1,f1,q1⟩:=own_type g b e.symm;unfold Row at h;rw[h] at q1;cases q1;exact ht rfl
theorem Row.wrt {W Z:World} {B wb nb b:Nat} {p:Cp.Wr} {vs vc vs' vc' :Value} {t:TypeId} {us:List Value} (h:Row W b t us) (hm:WrM W B wb nb p vs vc) (ht:WrT wb nb vs vc vs' vc' W Z) (h1:t≠281) (h2:t≠9) (h3:t≠5):Row Z b t us:=
 h.tn ht.tn (fun e=>by
  rcases e with e|e|e|e
  ·subst e
   have:=hm.row;unfold Row at h this;rw[h] at this;cases this;exact h1 rfl
  ·exact row_ne_map' h hm.nums e
  ·exact row_types h hm.strs h2 e
  ·exact row_types h hm.code h3 e)
theorem WrM.later {W Z:World} {B wb nb:Nat} {p:Cp.Wr} {vs vc:Value} (h:WrM W B wb nb p vs vc) (hb:Below W.heap.size W Z):WrM Z B wb nb p vs vc:=
 ⟨h.row.later hb,h.nums.later hb,own_same h.strs (fun k hk=>hb.block k (h.strs.lt k hk).2),own_same h.code (fun k hk=>hb.block k (h.code.lt k hk).2),h.wB,h.nB⟩
theorem WrT.later {W Z:World} {wb nb:Nat} {vs vc:Value} (hb:Below W.heap.size W Z):WrT wb nb vs vc vs vc W Z:=⟨Tn.later hb,fun _ e=> .inl e,fun _ e=> .inl e⟩
structure AddM (W:World) (B wb nb:Nat) (p:Cp.Wr) (vs vc:Value) (op:Nat) (os:List Nat) (N i:Nat) (wr:World):Prop where
 wm:∃vc',WrM wr B wb nb (addAt p op os i) vs vc' ∧WrT wb nb vs vc vs vc' W wr
 row:Row wr N 3 [.int .i64 (wd1 op),.int .i64 (wd2 op)]
theorem wrAdd_any (B wb nb:Nat) (p:Cp.Wr) (vs vc:Value) (op:Nat) (os:List Nat) (a:Option Addr) (cap ob:Nat) (W:World) (h:WrM W B wb nb p vs vc) (hB:B≤W.heap.size) (hop:op<256) (hos:∀x∈os,x<2147483648) (hol:os.length≤2) (ha:0<os.length→a=some ⟨ob,0,none⟩∧Row W ob 3 (os.map fun x:Nat=>Value.int .i64 (x:Int))) (hcl:p.code.length≤1073741824):
 Calls Tryz.prog 100 #[.pointer (some ⟨wb,0,none⟩),.int .u8 op,.slice a os.length cap] W fun e W' =>e= .returned (.tuple #[])∧∃vc',WrM W' B wb nb (addAt p op os 2) vs vc' ∧WrT wb nb vs vc vs vc' W W' :=by
 obtain⟨i0,hi0,hz0,hz1,hz2⟩:=info_parts Tryz.infoU8;obtain⟨sa,sc,hvc⟩:=own_sh h.code;subst hvc;have c2:=h.row.cell? (i:=2) rfl;have hwB:=h.wB;have hob:(((UInt8.ofNat op).toNat:Nat):Int)=op:=by rw[UInt8.toNat_ofNat'];omega
 have CW:=hide (widths_any op hop W);have HM:=hide h;have HA:=hide ha;have HOS:=hide hos;clear h ha hos
 go_enter Tryz.func100,Tryz.ntmps100
 go_wp2_with (first
  |(go_at_call 149;refine(uh CW).mono ?_;rintro e w1 ⟨rfl,rfl⟩)
  |(at_builtin;refine wpList_append_own_at _ rfl (.tmp 22) (.tmp 24) 126 rfl B 5 i0 (.int .u8 0) 1 1 Tryz.underlying126 hi0 hz0 hz1 hz2 rfl (by decide) _ p.code.length _ rfl (World.ownsRow.alloc (uh HM).code _) ⟨_,0,none⟩ 1 1 [.int .u8 (op:Int)] rfl rfl (cells_new _ _ [_]) (one_u8 _) (by unfold maxLen;omega) (by omega) (by rw[World.size_alloc];omega) ?_;intro v1 w2 hown1 hgrow1 hnil1 hat1;obtain⟨q1,q2,rfl,-,-⟩:=owns_form hown1 (by omega);have hr2:=(uh HM).row.grown ((World.grownBy_alloc W _ _).trans hgrow1) (own_ne (uh HM).code hwB);have e1' :=hr2.cell? (i:=2) rfl;have e2' :=hr2.frozen 2;have HE:=hide ((uh HM).addCode (bs:=[UInt8.ofNat op]) (Tn.refl _ _) (uh HM).row ((World.grownBy_alloc W _ _).trans hgrow1) (by unfold Lib.byteCells;simp only[List.map_cons,List.map_nil,List.length_singleton];rw[hob];exact hown1) (fun k hk=>by rcases hat1 with e|e;exact .inl (e▸hk);(rw [e] at hk;cases hk;exact .inr (by rw[World.size_alloc];omega))));clear hown1 hgrow1 hnil1 hat1 hr2)
  |fail)
 have hzs:(w2.setCell ⟨wb,2,none⟩ (.slice (some ⟨q1,0,none⟩) (p.code.length+1) q2)).heap.size=w2.heap.size:=by simp
 have HA0:Hid (AddM W B wb nb p vs (.slice sa p.code.length sc) op os w2.heap.size 0 ((w2.setCell ⟨wb,2,none⟩ (.slice (some ⟨q1,0,none⟩) (p.code.length+1) q2)).alloc (.cells #[.int .i64 (wd1 op),.int .i64 (wd2 op)] 3))):=by
  have hb:=(Below.refl _ (w2.setCell ⟨wb,2,none⟩ (.slice (some ⟨q1,0,none⟩) (p.code.length+1) q2))).alloc (Nat.le_refl _) (.cells #[.int .i64 (wd1 op),.int .i64 (wd2 op)] 3);have hr:=Row.new (w2.setCell ⟨wb,2,none⟩ (.slice (some ⟨q1,0,none⟩) (p.code.length+1) q2)) 3 [.int .i64 (wd1 op),.int .i64 (wd2 op)];rw[hzs] at hr;exact⟨⟨_,(uh HE).1.later hb,(uh HE).2.trans (WrT.later hb)⟩,hr⟩
 clear HE e1' e2' c2 hzs;generalize ((w2.setCell ⟨wb,2,none⟩ (.slice (some ⟨q1,0,none⟩) (p.code.length+1) q2)).alloc (.cells #[.int .i64 (wd1 op),.int .i64 (wd2 op)] 3))=W0 at*;generalize w2.heap.size=N at*
 go_loopw [32] (fun iv wr=>∃i:Nat,iv= .int .i64 i∧i≤2∧Hid (AddM W B wb nb p vs (.slice sa p.code.length sc) op os N i wr)) (fun iv _=>2-intN iv)
 case atStart=>exact⟨0,rfl,by omega,HA0⟩
 case round=>
  clear HA0;obtain⟨i,rfl,hi2,HR⟩:=hrel;obtain⟨vc1,hm1,ht1⟩:=(uh HR).wm
  by_cases hi:i<2
  ·have t1:(i:Int)<2:=by omega
   have t0:(0:Int)≤(i:Int):=by omega
   obtain⟨ca,cc,hvc⟩:=own_sh hm1.code;subst hvc;have hcl1:=addAt_len p op os i;have hwd:=wdAt_le op i
   have cw:wr.cell? ⟨N,i,none⟩=some (.int .i64 (wdAt op i)):=by
    match i,hi with
    |0,_=>exact(uh HR).row.cell? (i:=0) rfl
    |1,_=>exact(uh HR).row.cell? (i:=1) rfl
   have hnx:os.getD i 0<2147483648:=by
    rw[List.getD_eq_getElem?_getD]
    by_cases ho:i<os.length
    ·rw[List.getElem?_eq_getElem ho];exact uh HOS _ (List.getElem_mem ho)
    ·rw[List.getElem?_eq_none (by omega)];decide
   have hco:i<os.length→a=some ⟨ob,0,none⟩∧wr.cell? ⟨ob,i,none⟩=some (.int .i64 ((os.getD i 0:Nat):Int)):=fun ho=>by
    obtain⟨e1,e2⟩:=uh HA (by omega);refine⟨e1,(e2.wrt (uh HM) ht1 (by decide) (by decide) (by decide)).cell? ?_⟩;rw[List.getElem?_map,List.getElem?_eq_getElem ho,List.getD_eq_getElem?_getD,List.getElem?_eq_getElem ho];rfl
   have c2:=hm1.row.cell? (i:=2) rfl;have hBw:B≤wr.heap.size:=Nat.le_trans hB ht1.tn.size;have CB:=hide (bytes_any wb (os.getD i 0) (wdAt op i) hwd _ _ _ _ wr.drew hm1.row hnx);have HM1:=hide hm1;have HT1:=hide ht1;clear hm1 ht1;generalize hn:os.getD i 0=n at*;generalize hk:wdAt op i=k at*
   by_cases ho:i<os.length
   ·obtain⟨rfl,co⟩:=hco ho
    have t2:(i:Int)<(os.length:Int):=by omega
    clear hco
    go_wp2_with fail
    go_region_law (first
     |(go_simp;go_at_call 148;refine(uh CB).mono ?_;rintro e w3 ⟨N3,rfl,hN3,hr3,hn3,ht3⟩;have d2:=hr3.cell? (i:=2) rfl;have HO3:=hide (own_same (uh HM1).code (fun q hq=>ht3.block q ((uh HM1).code.lt q hq).2 (by have:=((uh HM1).code.lt q hq).1;omega)));have HN3:=hide hN3;have HR3:=hide hr3;have HT3:=hide ((Tn.later (p:=fun q=>q=wb) (Below.refl _ wr).drew).trans ht3);have hz3:=ht3.size;clear hN3 hr3 ht3 hn3)
     |(refine step_append_fresh rfl (.tmp 49) (.tmp 53) 126 rfl B 5 i0 _ 1 1 Tryz.underlying126 hi0 hz0 hz1 hz2 rfl (by decide) _ (addAt p op os i).code.length _ (by rfl) (uh HO3) ⟨N3,0,none⟩ k k (Lib.byteCells (Cp.beB n k)) (by rfl) (by rw[Lib.byteCells_length,beB_len _ _ hwd];omega) (fun j u hj=>by rw[addr_add0];exact(uh HN3).cell? hj) (byte_one _) (by unfold maxLen;omega) (by omega) (by have h7:wr.drew.heap.size=wr.heap.size:=rfl;omega) ?_;intro v4 w4 hown4 hgrow4 hat4;obtain⟨q3,q4,rfl⟩:=own_sh hown4;have hr4:=(uh HR3).grown hgrow4 (own_ne (uh HM1).code hwB);have e1:=hr4.cell? (i:=2) rfl;have e2:=hr4.frozen 2;have HE4:=hide ((uh HM1).addCode (bs:=Cp.beB n k) (uh HT3) (uh HR3) hgrow4 (by rw[beB_len _ _ hwd];exact hown4) (fun q hq=>by rcases hat4 with e|e;exact .inl (e▸hq);(rw [e] at hq;cases hq;exact .inr (by have h7:wr.drew.heap.size=wr.heap.size:=rfl;omega))));clear hown4 hgrow4 hat4 hr4))
    all_goals go_wp2_with fail
    all_goals go_roundw
    all_goals first
     |(refine ⟨i+1,by go_num,by omega,⟨⟨_,?_,(uh HT1).trans (uh HE4).2⟩,(uh HR).row.wrt (uh HM1) (uh HE4).2 (by decide) (by decide) (by decide)⟩⟩
       show WrM _ B wb nb ((addAt p op os i).put (os.getD i 0) (wdAt op i)) vs _;rw[hn,hk]
       exact(uh HE4).1)
     |(simp only[intN];omega)
   ·have hn0:n=0:=by rw[←hn,List.getD_eq_getElem?_getD,List.getElem?_eq_none (by omega)];rfl
    have t2:¬(i:Int)<(os.length:Int):=by omega
    subst hn0;clear hco
    go_wp2_with fail
    go_region_law (first
     |(go_simp;go_at_call 148;refine(uh CB).mono ?_;rintro e w3 ⟨N3,rfl,hN3,hr3,hn3,ht3⟩;have d2:=hr3.cell? (i:=2) rfl;have HO3:=hide (own_same (uh HM1).code (fun q hq=>ht3.block q ((uh HM1).code.lt q hq).2 (by have:=((uh HM1).code.lt q hq).1;omega)));have HN3:=hide hN3;have HR3:=hide hr3;have HT3:=hide ((Tn.later (p:=fun q=>q=wb) (Below.refl _ wr).drew).trans ht3);have hz3:=ht3.size;clear hN3 hr3 ht3 hn3)
     |(refine step_append_fresh rfl (.tmp 49) (.tmp 53) 126 rfl B 5 i0 _ 1 1 Tryz.underlying126 hi0 hz0 hz1 hz2 rfl (by decide) _ (addAt p op os i).code.length _ (by rfl) (uh HO3) ⟨N3,0,none⟩ k k (Lib.byteCells (Cp.beB 0 k)) (by rfl) (by rw[Lib.byteCells_length,beB_len _ _ hwd];omega) (fun j u hj=>by rw[addr_add0];exact(uh HN3).cell? hj) (byte_one _) (by unfold maxLen;omega) (by omega) (by have h7:wr.drew.heap.size=wr.heap.size:=rfl;omega) ?_;intro v4 w4 hown4 hgrow4 hat4;obtain⟨q3,q4,rfl⟩:=own_sh hown4;have hr4:=(uh HR3).grown hgrow4 (own_ne (uh HM1).code hwB);have e1:=hr4.cell? (i:=2) rfl;have e2:=hr4.frozen 2;have HE4:=hide ((uh HM1).addCode (bs:=Cp.beB 0 k) (uh HT3) (uh HR3) hgrow4 (by rw[beB_len _ _ hwd];exact hown4) (fun q hq=>by rcases hat4 with e|e;exact .inl (e▸hq);(rw [e] at hq;cases hq;exact .inr (by have h7:wr.drew.heap.size=wr.heap.size:=rfl;omega))));clear hown4 hgrow4 hat4 hr4))
    all_goals go_wp2_with fail
    all_goals go_roundw
    all_goals first
     |(refine ⟨i+1,by go_num,by omega,⟨⟨_,?_,(uh HT1).trans (uh HE4).2⟩,(uh HR).row.wrt (uh HM1) (uh HE4).2 (by decide) (by decide) (by decide)⟩⟩
       show WrM _ B wb nb ((addAt p op os i).put (os.getD i 0) (wdAt op i)) vs _;rw[hn,hk]
       exact(uh HE4).1)
     |(simp only[intN];omega)
  ·have hie:i=2:=by omega
   subst hie;have t1:¬((2:Nat):Int)<2:=by omega
   have HM1:=hide hm1;have HT1:=hide ht1;clear hm1 ht1
   go_wp2_with fail
   go_end0
   exact⟨rfl,_,uh HM1,uh HT1⟩
abbrev Flags:=List (Pl.Bs×Nat)
def flEnts (fl:Flags):Ents:=fl.map fun x=>(x.1,Value.int .i64 (x.2:Int))
def flagOf (fl:Flags) (k:Pl.Bs):Nat:=((fl.find? fun x=>x.1==k).map (·.2)).getD 0
theorem mget_fl (k:Pl.Bs):∀fl:Flags,(mget (flEnts fl) k).getD (.int .i64 0)= .int .i64 (flagOf fl k:Int)
 |[]=>rfl
 |x::r=>by
  have ih:=mget_fl k r;unfold mget flEnts flagOf at*;rw[List.map_cons,List.find?_cons,List.find?_cons];cases hx:(x.1==k) with
  |true=>simp
  |false=>simp only;exact ih
theorem flagOf_lt (k:Pl.Bs) (n:Nat) (hn:0<n) (fl:Flags) (h:∀x∈fl,x.2<n):flagOf fl k<n:=by
 unfold flagOf;cases hf:fl.find? (fun x=>x.1==k) with
 |none=>exact hn
 |some x=>exact h _ (List.mem_of_find?_eq_some hf)
theorem num_le (p:Cp.Wr) (s:Pl.Bs):p.num s≤p.strs.length:=by
 unfold Cp.Wr.num;cases hf:p.strs.findIdx? (fun x=>x==s) with
 |none=>exact Nat.le_refl _
 |some i=>exact Nat.le_of_lt (List.findIdx?_eq_some_iff_getElem.1 hf).1
theorem str_len (p:Cp.Wr) (s:Pl.Bs):(p.str s).strs.length≤p.strs.length+1:=by
 unfold Cp.Wr.str;cases hf:p.strs.findIdx? (fun x=>x==s) with
 |none=>simp
 |some i=>simp
theorem str_code (p:Cp.Wr) (s:Pl.Bs):(p.str s).code=p.code:=by
 unfold Cp.Wr.str;cases hf:p.strs.findIdx? (fun x=>x==s) with
 |none=>rfl
 |some i=>rfl
theorem addAt_strs (p:Cp.Wr) (op:Nat) (os:List Nat):∀i,(addAt p op os i).strs=p.strs
 |0=>rfl
 |i+1=>addAt_strs p op os i
def addW (p:Cp.Wr) (op:Nat) (os:List Nat):Cp.Wr:=addAt p op os 2
theorem addW_len (p:Cp.Wr) (op:Nat) (os:List Nat):(addW p op os).code.length≤p.code.length+5:=addAt_len p op os 2
theorem addW_strs (p:Cp.Wr) (op:Nat) (os:List Nat):(addW p op os).strs=p.strs:=addAt_strs p op os 2
def staleStep (fl:Flags) (nm:Nat) (q:Cp.Wr) (need:Pl.Bs):Cp.Wr:=
 addW (addW ((addW (addW q 4 [flagOf fl need]) 5 []).str need) 3 [nm,(addW (addW q 4 [flagOf fl need]) 5 []).num need]) 5 []
def staleW (fl:Flags) (p:Cp.Wr) (phony:Bool) (name:Pl.Bs) (needs:List Pl.Bs):Cp.Wr:=
 if phony then addW p 1 [1] else needs.foldl (staleStep fl (p.num name)) (addW (p.str name) 2 [p.num name])
theorem staleStep_strs (fl:Flags) (nm:Nat) (q:Cp.Wr) (need:Pl.Bs):(staleStep fl nm q need).strs.length≤q.strs.length+1:=by
 unfold staleStep;rw[addW_strs,addW_strs];refine Nat.le_trans (str_len _ _) ?_;rw[addW_strs,addW_strs];exact Nat.le_refl _
theorem staleStep_len (fl:Flags) (nm:Nat) (q:Cp.Wr) (need:Pl.Bs):(staleStep fl nm q need).code.length≤q.code.length+20:=by
 unfold staleStep;have h1:=addW_len q 4 [flagOf fl need];have h2:=addW_len (addW q 4 [flagOf fl need]) 5 [];have h3:=addW_len ((addW (addW q 4 [flagOf fl need]) 5 []).str need) 3 [nm,(addW (addW q 4 [flagOf fl need]) 5 []).num need];have h4:=addW_len (addW ((addW (addW q 4 [flagOf fl need]) 5 []).str need) 3 [nm,(addW (addW q 4 [flagOf fl need]) 5 []).num need]) 5 [];rw[str_code] at h3
 omega
theorem staleFold_len (fl:Flags) (nm:Nat):∀(needs:List Pl.Bs) (q:Cp.Wr),(needs.foldl (staleStep fl nm) q).strs.length≤q.strs.length+needs.length∧(needs.foldl (staleStep fl nm) q).code.length≤q.code.length+20*needs.length
 |[],q=>⟨Nat.le_refl _,Nat.le_refl _⟩
 |n::r,q=>by
  have ih:=staleFold_len fl nm r (staleStep fl nm q n);have h1:=staleStep_strs fl nm q n;have h2:=staleStep_len fl nm q n;rw[List.foldl_cons,List.length_cons];omega
theorem staleW_len (fl:Flags) (p:Cp.Wr) (ph:Bool) (name:Pl.Bs) (needs:List Pl.Bs):(staleW fl p ph name needs).strs.length≤p.strs.length+1+needs.length∧(staleW fl p ph name needs).code.length≤p.code.length+5+20*needs.length:=by
 unfold staleW;cases ph with
 |true=>
  rw[if_pos rfl,addW_strs];have:=addW_len p 1 [1];omega
 |false=>
  simp only[Bool.false_eq_true,if_false];have h1:=staleFold_len fl (p.num name) needs (addW (p.str name) 2 [p.num name]);have h2:=addW_len (p.str name) 2 [p.num name];have h3:=str_len p name;rw[addW_strs] at h1;rw[str_code] at h2;omega
section
variable {B wb nb:Nat} {p:Cp.Wr} {vs vc:Value} {W:World}
def AddP (B wb nb:Nat) (p:Cp.Wr) (vs vc:Value) (W:World) (op:Nat) (os:List Nat) (e:Ending) (W' :World):Prop:=e= .returned (.tuple #[])∧∃vc',WrM W' B wb nb (addW p op os) vs vc' ∧WrT wb nb vs vc vs vc' W W'
theorem wrAdd0 (h:WrM W B wb nb p vs vc) (hB:B≤W.heap.size) (hcl:p.code.length≤1073741824) (op:Nat) (o:Int) (ho:o=op) (hop:op<256):
 Calls Tryz.prog 100 #[.pointer (some ⟨wb,0,none⟩),.int .u8 o,.slice none 0 0] W (AddP B wb nb p vs vc W op []):=by
 subst ho;exact wrAdd_any B wb nb p vs vc op [] none 0 0 W h hB hop (by simp) (by simp) (fun e=>absurd e (by simp)) hcl
theorem wrAdds (h:WrM W B wb nb p vs vc) (hB:B≤W.heap.size) (hcl:p.code.length≤1073741824) (op:Nat) (o:Int) (ho:o=op) (hop:op<256) (os:List Nat) (hos:∀x∈os,x<2147483648) (hl:os.length≤2) (n:Nat) (hn:n=os.length) (N:Nat) (hN:N=W.heap.size) (cs:Array Value) (hcs:cs=(os.map fun x:Nat=>Value.int .i64 (x:Int)).toArray):
 Calls Tryz.prog 100 #[.pointer (some ⟨wb,0,none⟩),.int .u8 o,.slice (some ⟨N,0,none⟩) n n] (W.alloc (.cells cs 3)) (AddP B wb nb p vs vc W op os):=by
 subst ho;subst hn;subst hN;subst hcs;have hb:=(Below.refl W.heap.size W).alloc (Nat.le_refl _) (.cells (os.map fun x:Nat=>Value.int .i64 (x:Int)).toArray 3);refine(wrAdd_any B wb nb p vs vc op os (some ⟨W.heap.size,0,none⟩) os.length W.heap.size _ (h.later hb) (Nat.le_trans hB hb.size) hop hos hl (fun _=>⟨rfl,Row.new W _ _⟩) hcl).mono ?_
 rintro e w1 ⟨rfl,vc',h1,h2⟩
 exact⟨rfl,vc',h1,(WrT.later hb).trans h2⟩
theorem WrM.size (h:WrM W B wb nb p vs vc):wb<W.heap.size∧nb<W.heap.size:=⟨h.row.lt,h.nums.lt⟩
theorem WrT.below {vs' vc' :Value} {W' :World} (h:WrM W B wb nb p vs vc) (ht:WrT wb nb vs vc vs' vc' W W') {L:Nat} (h1:L≤wb) (h2:L≤nb):Below L W W' :=
 ht.tn.below (Nat.le_trans h1 (Nat.le_of_lt h.size.1)) (fun k e=>by
  have:=h.wB
  rcases e with e|e|e|e
  ·omega
  ·omega
  ·have:=(h.strs.lt k e.symm).1;omega
  ·have:=(h.code.lt k e.symm).1;omega)
theorem SMap.wrt {vs' vc' :Value} {W' :World} {fb:Nat} {l:Ents} (g:SMap W fb l) (h:WrM W B wb nb p vs vc) (ht:WrT wb nb vs vc vs' vc' W W') (h1:fb<B) (h2:fb≠nb):SMap W' fb l:=
 g.tn ht.tn (fun e=>by
  rcases e with e|e|e|e
  ·exact row_ne_map' h.row g e.symm
  ·exact h2 e
  ·exact own_ne h.strs h1 e
  ·exact own_ne h.code h1 e)
end
def nodeV (name:Pl.Bs) (ph:Bool) (needs cmds:Value) (stem:Pl.Bs):Value:= .agg #[strV name,.bool ph,needs,cmds,strV stem]
def RdN (W:World) (b o:Nat) (ss:List Pl.Bs):Prop:=∀(j:Nat) (x:Pl.Bs),ss[j]?=some x→W.cell? ⟨b,o+j,none⟩=some (strV x)
theorem RdN.below {W W' :World} {b o L:Nat} {ss:List Pl.Bs} (h:RdN W b o ss) (hb:Below L W W') (hl:b<L):RdN W' b o ss:=fun j x hj=>(hb.cell (p:=⟨b,o+j,none⟩) hl).trans (h j x hj)
end Go.Proofs.YtjelacjggijmfaaGreatDoor
