/-
  What a goal wants: the walk, to its end.
-/
import Derived.Test.YtjelacjggijmfaaGreatDoorTGE7
import Derived.Deep.LoopGhost
set_option maxHeartbeats 4000000
set_option maxRecDepth 100000
namespace Go.Proofs.YtjelacjggijmfaaGreatDoor
open Go.RowKit Go.MapKept Go.ChangeMaps Go.Maps
theorem Tryz.infoVis:(Tryz.prog.info? 313).map (fun i=>(i.zero,i.size,i.bytes))=some (some (.agg #[.string ⟨#[]⟩,.bool false,.slice none 0 0,.slice none 0 0,.string ⟨#[]⟩,.int .i64 0]),6,96):=by kernel_rfl
theorem zeroState (w:World):(zeroValue 309).run Tryz.prog w= .ok (.int .i64 0) w:=by kernel_rfl
structure Wst where
 sts:Flags
 opn:List (Nod×Nat)
 over:List Nod
def enterF (s:St) (fs:List Pl.File) (us:List (Nat×List Pl.Bs)) (t:Wst) (name:Pl.Bs):Nat×Wst:=
 if flagOf t.sts name=2 then(0,t) else if flagOf t.sts name=1 then(7,t)
 else if(nodeF s fs us name).2=false then(8,t) else(0,{t with sts:=flPut t.sts name 1,opn:=t.opn++[((nodeF s fs us name).1,0)]})
def GoS (W:World) (L wk st:Nat) (c:Ad) (rb:Nat→Nat) (s:St) (vp:Value) (l:Ents) (bf bi:Nat) (ve:Value) (ef:List Pl.Eff) (fs:List Pl.File) (clock:Int) (us:List (Nat×List Pl.Bs)) (v2:Value) (t:Wst):Prop:=
 ∃vo vv qo qv,GoM W L wk st c rb s vp l bf bi ve ef fs clock us v2 vo vv t.sts qo qv∧(qo.map fun q=>(q.nd,q.lk))=t.opn∧qv.map Vq.nd=t.over
theorem vis_ones (q:Vq) (h1:q.vn.oneCell' =true) (h2:q.vc.oneCell' =true):∀u∈vqC q,u.oneCell' =true:=by
 intro u hu;unfold vqC at hu;simp only[List.mem_cons,List.not_mem_nil,or_false] at hu
 rcases hu with e|e|e|e|e|e
 ·subst e;rfl
 ·subst e;rfl
 ·subst e;exact h1
 ·subst e;exact h2
 ·subst e;rfl
 ·subst e;rfl
section
variable {W X Y:World} {L wk st:Nat} {c:Ad} {rb:Nat→Nat} {s:St} {vp:Value} {l:Ents} {bf bi:Nat} {ve:Value} {ef:List Pl.Eff} {fs:List Pl.File} {clock:Int} {us:List (Nat×List Pl.Bs)} {v2:Value} {t:Wst}
theorem enter_any (name:Pl.Bs) (k:Nat) (h:GoS W L wk st c rb s vp l bf bi ve ef fs clock us v2 t) (hx:∀x∈us,x.1<s.rules.length∧(rlOf s x.1).tg≠[]∧(∀y∈(rlOf s x.1).tg,y.length≤2000)∧x.2.length≤2000∧∀n∈x.2,n.length≤2000) (hn:us.length≤1073741824) (hok:Ok s k) (hnm:name.length≤1073741824) (hst:t.sts.length≤4294967296) (hop:t.opn.length≤4294967296):
 Calls Tryz.prog 142 #[.pointer (some ⟨wk,0,none⟩),.string ⟨name.toArray⟩] W fun e W' =>e= .returned (.int .i64 ((enterF s fs us t name).1:Int))∧GoS W' L wk st c rb s vp l bf bi ve ef fs clock us v2 (enterF s fs us t name).2∧Below L W W' :=by
 obtain⟨i0,hi0,hz0,hz1,hz2⟩:=info_parts Tryz.infoVis;obtain⟨vo,vv,qo,qv,hM,ho,hv⟩:=h;have c3:=hM.wkm.row.cell? (i:=3) rfl;have lwk:=hM.wkm.row.lt;have HMP:=hide hM.mp;have HFL:=hide (mget_fl name t.sts);have HM:=hide hM
 have hA:enterF s fs us t name=if flagOf t.sts name=2 then(0,t) else if flagOf t.sts name=1 then(7,t) else if(nodeF s fs us name).2=false then(8,t) else(0,{t with sts:=flPut t.sts name 1,opn:=t.opn++[((nodeF s fs us name).1,0)]}):=rfl
 have HSame:Hid (∀w,Below W.heap.size W w→GoS w L wk st c rb s vp l bf bi ve ef fs clock us v2 t∧Below L W w):=fun w hw=>⟨⟨vo,vv,qo,qv,hM.later hw,ho,hv⟩,hw.mono hM.lW⟩
 by_cases h2:flagOf t.sts name=2
 ·rw[hA,if_pos h2]
  have w2:((flagOf t.sts name:Int)==2)=true:=by rw[beq_iff_eq];omega
  have HR:=hide (uh HSame W (Below.refl _ _));clear hM ho hv hA h2
  go_enter Tryz.func142,Tryz.ntmps142
  go_wp2_with (first
   |(at_lookup;refine wpList_look_one _ rfl _ _ 189 rfl 9 309 Tryz.underlying189 Tryz.underlying9 (.int .i64 0) (zeroState _) st (flEnts t.sts) rfl (uh HMP) name rfl _ (uh HFL) ?_)
   |fail)
  go_ret
  exact⟨rfl,(uh HR).1,(uh HR).2⟩
 ·have w2:((flagOf t.sts name:Int)==2)=false:=by rw[beq_eq_false_iff_ne];omega
  by_cases h1:flagOf t.sts name=1
  ·rw[hA,if_neg h2,if_pos h1]
   have w1:((flagOf t.sts name:Int)==1)=true:=by rw[beq_iff_eq];omega
   have HR:=hide (uh HSame W (Below.refl _ _));clear hM ho hv hA h2 h1
   go_enter Tryz.func142,Tryz.ntmps142
   go_wp2_with (first
    |(at_lookup;refine wpList_look_one _ rfl _ _ 189 rfl 9 309 Tryz.underlying189 Tryz.underlying9 (.int .i64 0) (zeroState _) st (flEnts t.sts) rfl (uh HMP) name rfl _ (uh HFL) ?_)
    |fail)
   go_ret
   exact⟨rfl,(uh HR).1,(uh HR).2⟩
  ·have w1:((flagOf t.sts name:Int)==1)=false:=by rw[beq_eq_false_iff_ne];omega
   rw[hA,if_neg h2,if_neg h1];have CN:=hide (node_any us name k hM.wkm hM.pat hx hn hok hnm)
   have hqo:qo.length≤4294967296:=by
    have:qo.length=t.opn.length:=by rw[←ho,List.length_map]
    omega
   clear hA h2 h1;generalize hND:nodeF s fs us name=nf at*;obtain⟨nd,ok⟩:=nf;simp only at CN⊢;cases ok with
   |false=>
    rw[if_pos rfl];clear hM ho hv
    go_enter Tryz.func142,Tryz.ntmps142
    go_wp2_with (first
     |(at_lookup;refine wpList_look_one _ rfl _ _ 189 rfl 9 309 Tryz.underlying189 Tryz.underlying9 (.int .i64 0) (zeroState _) st (flEnts t.sts) rfl (uh HMP) name rfl _ (uh HFL) ?_)
     |(go_at_call 189;refine(uh CN).mono ?_;clear CN;rintro e w1 ⟨vn,vc,rfl,hs1,hc1,hb1⟩;obtain⟨an,cn,rfl⟩:=hs1.sh;obtain⟨am,cm,rfl⟩:=hc1.sh;unfold strV;have HR:=hide (uh HSame _ (hb1.alloc hb1.size (.cells #[.string ⟨nd.name.toArray⟩,.bool nd.ph,.slice an nd.needs.length cn,.slice am nd.cmds.length cm,.string ⟨nd.stem.toArray⟩] 197)));clear hs1 hc1 hb1)
     |fail)
    go_ret
    exact⟨rfl,(uh HR).1,(uh HR).2⟩
   |true=>
    rw[if_neg (by simp)];have HO:=hide ho;have HV:=hide hv;clear hM ho hv
    go_enter Tryz.func142,Tryz.ntmps142
    go_wp2_with (first
     |(at_lookup;refine wpList_look_one _ rfl _ _ 189 rfl 9 309 Tryz.underlying189 Tryz.underlying9 (.int .i64 0) (zeroState _) st (flEnts t.sts) rfl (uh HMP) name rfl _ (uh HFL) ?_)
     |(go_at_call 189;refine(uh CN).mono ?_;clear CN;rintro e w1 ⟨vn,vc,rfl,hs1,hc1,hb1⟩;obtain⟨an,cn,rfl⟩:=hs1.sh;obtain⟨am,cm,rfl⟩:=hc1.sh;unfold strV;have bB:=(Below.refl w1.heap.size w1).alloc (Nat.le_refl _) (.cells #[.string ⟨nd.name.toArray⟩,.bool nd.ph,.slice an nd.needs.length cn,.slice am nd.cmds.length cm,.string ⟨nd.stem.toArray⟩] 197);have HB1:=hide (hb1.trans (bB.mono hb1.size));have HM1:=hide ((uh HM).later (hb1.trans (bB.mono hb1.size)));have d3:=(uh HM1).wkm.row.cell? (i:=3) rfl;have HVQ:Hid (VqT _ (⟨nd,0,.slice an nd.needs.length cn,.slice am nd.cmds.length cm⟩:Vq)):=⟨hs1.bl (Bl.below bB),hc1.bl (Bl.below bB)⟩;have HRB:=hide (Row.new w1 197 [.string ⟨nd.name.toArray⟩,.bool nd.ph,.slice an nd.needs.length cn,.slice am nd.cmds.length cm,.string ⟨nd.stem.toArray⟩]);clear hs1 hc1 hb1 bB)
     |(at_mapUpdate;refine wpList_put_s _ rfl _ _ _ 189 rfl 9 309 Tryz.underlying189 Tryz.underlying9 st (flEnts t.sts) rfl (uh HM1).mp (by unfold flEnts maxLen;rw[List.length_map];omega) name rfl (.int .i64 1) rfl ?_;intro w3 hs3 ht3;have e3:=flPut_ents name 1 t.sts;rw[show ((1:Nat):Int)=1 from rfl] at e3;rw[e3] at hs3;obtain⟨m3,f3⟩:=(uh HM1).toSt ht3 hs3;have HM3:=hide m3;have HF3:=hide f3;have HRB3:Hid (Row w3 w1.heap.size 197 [.string ⟨nd.name.toArray⟩,.bool nd.ph,.slice an nd.needs.length cn,.slice am nd.cmds.length cm,.string ⟨nd.stem.toArray⟩]):=(uh HRB).tn (map_tn (p:=fun q=>q=st) ht3 rfl) (row_ne_map' (uh HRB) (uh HM1).mp);have HVQ3:=hide ((uh HVQ).bl ((uh HM1).bl f3));clear hs3 ht3 m3 f3 e3)
     |fail)
    have bY:Below w3.heap.size w3 (w3.drew.alloc (.cells #[.string ⟨nd.name.toArray⟩,.bool nd.ph,.slice an nd.needs.length cn,.slice am nd.cmds.length cm,.string ⟨nd.stem.toArray⟩,.int .i64 0] 313)):=((Below.refl w3.heap.size w3).drew).alloc (Nat.le_refl _) _;have HMY:=hide ((uh HM3).later bY);have HVY:=hide ((uh HVQ3).bl (Bl.below bY))
    have HRX:=hide (Row.new w3.drew 313 [.string ⟨nd.name.toArray⟩,.bool nd.ph,.slice an nd.needs.length cn,.slice am nd.cmds.length cm,.string ⟨nd.stem.toArray⟩,.int .i64 0]);have d4:=(uh HM3).wkm.row.cell? (i:=4) rfl;have b0:=(uh HRB3).cell? (i:=0) rfl;have b1:=(uh HRB3).cell? (i:=1) rfl;have b2:=(uh HRB3).cell? (i:=2) rfl;have b3:=(uh HRB3).cell? (i:=3) rfl
    have b4:=(uh HRB3).cell? (i:=4) rfl;have lb3:=(uh HRB3).lt;have lk3:=(uh HM3).wkm.row.lt;have HOW:=hide (uh HMY).opn;have hLY:=(uh HMY).lW;have HBY:Hid (Below L w3 (w3.drew.alloc (.cells #[.string ⟨nd.name.toArray⟩,.bool nd.ph,.slice an nd.needs.length cn,.slice am nd.cmds.length cm,.string ⟨nd.stem.toArray⟩,.int .i64 0] 313))):=bY.mono (uh HM3).lW
    have HB3:=hide (((uh HB1).mono (uh HM).lW).trans ((uh HM1).below (uh HF3)));clear bY d3 c3;obtain⟨av,cv,rfl⟩:=own_sh (uh HOW);simp only[Act.put]
    go_region_law (first
     |(refine step_append_fresh rfl (.tmp 34) (.tmp 37) 191 rfl L 313 i0 _ 6 96 Tryz.underlying191 hi0 hz0 hz1 hz2 rfl (by decide) _ qo.length (qo.flatMap vqC) (by rfl) (uh HOW) ⟨w3.heap.size,0,none⟩ 1 1 [.string ⟨nd.name.toArray⟩,.bool nd.ph,.slice an nd.needs.length cn,.slice am nd.cmds.length cm,.string ⟨nd.stem.toArray⟩,.int .i64 0] (by rfl) (by rfl) (fun j u hj=>by rw[addr_add0];exact(uh HRX).cell? hj) (vis_ones ⟨nd,0,.slice an nd.needs.length cn,.slice am nd.cmds.length cm⟩ rfl rfl) (by unfold maxLen;omega) (by omega) hLY ?_;intro v6 w6 hown6 hgrow6 _;obtain⟨a6,c6,rfl⟩:=own_sh hown6;obtain⟨x1,m6,f6⟩:=(uh HMY).toOpen (q:=⟨nd,0,.slice an nd.needs.length cn,.slice am nd.cmds.length cm⟩) (uh HVY) hown6 hgrow6;have y4:=x1.cell? (i:=4) rfl;have z4:=x1.frozen 4;have HM6:=hide m6;have HF6:=hide f6;clear m6 f6 hown6 hgrow6 x1)
     |fail)
    all_goals go_wp2_with fail
    all_goals go_ret
    all_goals exact⟨rfl,⟨_,_,_,_,uh HM6,by rw[List.map_append,uh HO];rfl,uh HV⟩,((uh HB3).trans (uh HBY)).trans ((uh HMY).below (uh HF6))⟩
end
theorem Tryz.infoNode:(Tryz.prog.info? 197).map (fun i=>(i.zero,i.size,i.bytes))=some (some (.agg #[.string ⟨#[]⟩,.bool false,.slice none 0 0,.slice none 0 0,.string ⟨#[]⟩]),5,88):=by kernel_rfl
def leaveF (t:Wst):Wst:=match t.opn.getLast? with
 |none=>t
 |some x=>⟨flPut t.sts x.1.name 2,t.opn.dropLast,if t.over.length≤100 then t.over++[x.1] else t.over⟩
theorem vq_len:∀qs:List Vq,(qs.flatMap vqC).length=qs.length*6
 |[]=>rfl
 |q::r=>by
  have:=vq_len r;rw[List.flatMap_cons,List.length_append,this,List.length_cons];simp[vqC];omega
theorem own_cutN {W:World} {B e size n g cap:Nat} {xs ys:List Value} (h:W.ownsRow B e size (.slice (some ⟨g,0,none⟩) (n+1) cap) (n+1) (xs++ys)) (hx:xs.length=n*size):W.ownsRow B e size (.slice (some ⟨g,0,none⟩) n cap) n xs:=by
 refine⟨hx,?_⟩
 rcases h.2 with⟨h1,-⟩|⟨g',cap',cur,h1,h2,h3,h4,h5,h6,h7⟩
 ·cases h1
 ·cases h1
  refine .inr ⟨g,cap,cur,rfl,h2,h3,by omega,h5,h6,?_⟩
  have e:(cur.toList.take ((n+1)*size)).take (n*size)=cur.toList.take (n*size):=by
   rw[List.take_take,Nat.min_eq_left (Nat.mul_le_mul_right _ (by omega))]
  rw[←e,h7,←hx];exact List.take_left
theorem nod_ones (q:Vq) (h1:q.vn.oneCell' =true) (h2:q.vc.oneCell' =true):∀u∈vnC q,u.oneCell' =true:=by
 intro u hu;unfold vnC at hu;simp only[List.mem_cons,List.not_mem_nil,or_false] at hu
 rcases hu with e|e|e|e|e
 ·subst e;rfl
 ·subst e;rfl
 ·subst e;exact h1
 ·subst e;exact h2
 ·subst e;rfl
section
variable {W X Y:World} {L wk st:Nat} {c:Ad} {rb:Nat→Nat} {s:St} {vp:Value} {l:Ents} {bf bi:Nat} {ve:Value} {ef:List Pl.Eff} {fs:List Pl.File} {clock:Int} {us:List (Nat×List Pl.Bs)} {v2 vo vv:Value} {sts:Flags} {qo qv:List Vq}
theorem GoM.toCut {g cap:Nat} {q:Vq} (h:GoM W L wk st c rb s vp l bf bi ve ef fs clock us v2 (.slice (some ⟨g,0,none⟩) (qo.length+1) cap) vv sts (qo++[q]) qv):
 GoM (W.setCell ⟨wk,4,none⟩ (.slice (some ⟨g,0,none⟩) qo.length cap)) L wk st c rb s vp l bf bi ve ef fs clock us v2 (.slice (some ⟨g,0,none⟩) qo.length cap) vv sts qo qv∧Tn (GoP wk st (.slice (some ⟨g,0,none⟩) (qo.length+1) cap) vv) W (W.setCell ⟨wk,4,none⟩ (.slice (some ⟨g,0,none⟩) qo.length cap)):=by
 have ht:Tn (GoP wk st (.slice (some ⟨g,0,none⟩) (qo.length+1) cap) vv) W (W.setCell ⟨wk,4,none⟩ (.slice (some ⟨g,0,none⟩) qo.length cap)):=Tn.set W ⟨wk,4,none⟩ _ (.inl rfl);have hbl:=h.bl ht;have hop:=h.opn;rw[List.length_append,List.length_cons,List.length_nil,List.flatMap_append] at hop;have hcut:=own_cutN hop (vq_len qo)
 have hne:some wk≠(Value.slice (some ⟨g,0,none⟩) qo.length cap).ownBlock:=row_ne_own h.wkm.row hcut (by decide);have hne2:some wk≠vv.ownBlock:=row_ne_own h.wkm.row h.ovr (by decide);have hst:wk≠st:=row_ne_map' h.wkm.row h.mp
 exact⟨h.next ht (h.wkm.row.set 4 _) (h.mp.setCell (Ne.symm hst) _) (owns_other hcut hne 4 _) (fun q' hq' =>(h.opv q' (List.mem_append_left _ hq')).bl hbl) (owns_other h.ovr hne2 4 _) (fun q' hq' =>(h.ovv q' hq').bl hbl),ht⟩
theorem GoM.toOver (h:GoM W L wk st c rb s vp l bf bi ve ef fs clock us v2 vo vv sts qo qv) {q:Vq} {vv' :Value} (hq:VqT W q) (hown:X.ownsRow L 197 5 vv' (qv.length+1) (qv.flatMap vnC++vnC q)) (hg:W.grownBy X vv.ownBlock):
 Row X wk 193 [.pointer (some ⟨c.bb,0,none⟩),.pointer (some ⟨c.bx,0,none⟩),v2,.map (some st),vo,vv]∧GoM (X.setCell ⟨wk,5,none⟩ vv') L wk st c rb s vp l bf bi ve ef fs clock us v2 vo vv' sts qo (qv++[q])∧Tn (GoP wk st vo vv) W (X.setCell ⟨wk,5,none⟩ vv'):=by
 have ht1:Tn (GoP wk st vo vv) W X:=Tn.grown hg (fun k e=> .inr (.inr (.inr e.symm)));have ht:Tn (GoP wk st vo vv) W (X.setCell ⟨wk,5,none⟩ vv'):=ht1.trans (Tn.set X ⟨wk,5,none⟩ vv' (.inl rfl));have hrow:=h.wkm.row.grown hg (row_ne_own h.wkm.row h.ovr (by decide));have hbl:=h.bl ht;have hne:some wk≠vv'.ownBlock:=row_ne_own hrow hown (by decide)
 have hne2:some wk≠vo.ownBlock:=row_ne_own h.wkm.row h.opn (by decide);have hst:wk≠st:=row_ne_map' h.wkm.row h.mp
 have hap:vo.ownBlock=none∨vo.ownBlock≠vv.ownBlock:=by
  cases e:vo.ownBlock with
  |none=>exact .inl rfl
  |some k=>
   refine .inr (fun q=> ?_);obtain⟨c1,f1,q1⟩:=own_type h.opn k e;obtain⟨c2,f2,q2⟩:=own_type h.ovr k q.symm;rw[q1] at q2;cases q2
 have hmp:SMap X st (flEnts sts):=h.mp.kept hg (fun e=>by
  obtain⟨c2,f2,q2⟩:=own_type h.ovr st e.symm;obtain⟨es,clk,h1,-⟩:=h.mp
  rw[h1] at q2;cases q2)
 refine⟨hrow,h.next ht (hrow.set 5 vv') (hmp.setCell (Ne.symm hst) vv') (owns_other (h.opn.kept hg hap) hne2 5 vv') (fun q' hq' =>(h.opv q' hq').bl hbl) ?_ ?_,ht⟩
 ·have:=owns_other hown hne 5 vv'
  rw[List.length_append,List.flatMap_append]
  simpa using this
 ·intro q' hq'
  rcases List.mem_append.1 hq' with e|e
  ·exact(h.ovv q' e).bl hbl
  ·rw[List.mem_singleton] at e;subst e;exact hq.bl hbl
theorem stPut (h:GoM W L wk st c rb s vp l bf bi ve ef fs clock us v2 vo vv sts qo qv) (hl:sts.length≤4294967296) (name:Pl.Bs):∃w',(Instr.mapUpdate 189 (.map (some st)) (.string ⟨name.toArray⟩) (.int .i64 2)).run Tryz.prog W= .ok () w' ∧GoM w' L wk st c rb s vp l bf bi ve ef fs clock us v2 vo vv (flPut sts name 2) qo qv∧Tn (GoP wk st vo vv) W w' ∧W.mapTurned w' st:=by
 obtain⟨w',h1,h2,h3⟩:=h.mp.put (P:=Tryz.prog) Tryz.underlying189 Tryz.underlying9 (by unfold flEnts maxLen;rw[List.length_map];omega) name (.int .i64 2);have e3:=flPut_ents name 2 sts;rw[show ((2:Nat):Int)=2 from rfl] at e3;rw[e3] at h2;obtain⟨m,f⟩:=h.toSt h3 h2;exact⟨w',h1,m,f,h3⟩
end
section
variable {W X Y:World} {L wk st:Nat} {c:Ad} {rb:Nat→Nat} {s:St} {vp:Value} {l:Ents} {bf bi:Nat} {ve:Value} {ef:List Pl.Eff} {fs:List Pl.File} {clock:Int} {us:List (Nat×List Pl.Bs)} {v2 vo vv:Value} {sts:Flags} {qo qv:List Vq} {t:Wst}
theorem vq_at (qs:List Vq) (q:Vq) (i:Nat) (u:Value) (h:(vqC q)[i]?=some u):((qs++[q]).flatMap vqC)[qs.length*6+i]?=some u:=by
 rw[List.flatMap_append,List.getElem?_append_right (by rw[vq_len];omega),vq_len,Nat.add_sub_cancel_left]
 simpa using h
theorem leave_any (q:Vq) (hM:GoM W L wk st c rb s vp l bf bi ve ef fs clock us v2 vo vv sts (qo++[q]) qv) (hl:sts.length≤4294967296) (hn:qo.length≤4294967296):
 Calls Tryz.prog 190 #[.pointer (some ⟨wk,0,none⟩)] W fun e W' =>e= .returned (.tuple #[])∧(∃vo' vv',GoM W' L wk st c rb s vp l bf bi ve ef fs clock us v2 vo' vv' (flPut sts q.nd.name 2) qo (if qv.length≤100 then qv++[q] else qv))∧Below L W W' :=by
 obtain⟨i0,hi0,hz0,hz1,hz2⟩:=info_parts Tryz.infoNode;have hop:=hM.opn;rw[List.length_append,List.length_cons,List.length_nil,Nat.zero_add] at hop
 rcases hop.2 with⟨-,e⟩|⟨g,cap,cur,rfl,e2,e3,e4,-⟩
 ·omega
 have hqv:=hM.opv q (by simp);obtain⟨an,cn,hvn⟩:=hqv.1.sh;obtain⟨am,cm,hvc⟩:=hqv.2.sh;have HVQ:=hide hqv;obtain⟨nd,lk,vn,vc⟩:=q;simp only at hvn hvc;subst hvn hvc;have a0:=own_cell2 hop (qo.length*6+0) _ (vq_at qo _ 0 _ rfl);have a1:=own_cell2 hop (qo.length*6+1) _ (vq_at qo _ 1 _ rfl);have a2:=own_cell2 hop (qo.length*6+2) _ (vq_at qo _ 2 _ rfl)
 have a3:=own_cell2 hop (qo.length*6+3) _ (vq_at qo _ 3 _ rfl);have a4:=own_cell2 hop (qo.length*6+4) _ (vq_at qo _ 4 _ rfl);rw[Nat.add_zero] at a0;unfold strV at a0 a4;simp only at a0 a1 a2 a3 a4;have d4:=hM.wkm.row.cell? (i:=4) rfl;have f4:=hM.wkm.row.frozen 4;have lwk:=hM.wkm.row.lt;have lg:=(Array.getElem?_eq_some_iff.1 e3).1;obtain⟨m1,f1⟩:=hM.toCut
 have hz:(W.setCell ⟨wk,4,none⟩ (.slice (some ⟨g,0,none⟩) qo.length cap)).heap.size=W.heap.size:=by simp[World.setCell]
 have b1:=(Below.refl (W.setCell ⟨wk,4,none⟩ (.slice (some ⟨g,0,none⟩) qo.length cap)).heap.size (W.setCell ⟨wk,4,none⟩ (.slice (some ⟨g,0,none⟩) qo.length cap))).alloc (Nat.le_refl _) (.cells #[.string ⟨nd.name.toArray⟩,.bool nd.ph,.slice an nd.needs.length cn,.slice am nd.cmds.length cm,.string ⟨nd.stem.toArray⟩] 197)
 have rB:=Row.new (W.setCell ⟨wk,4,none⟩ (.slice (some ⟨g,0,none⟩) qo.length cap)) 197 [.string ⟨nd.name.toArray⟩,.bool nd.ph,.slice an nd.needs.length cn,.slice am nd.cmds.length cm,.string ⟨nd.stem.toArray⟩];rw[hz] at rB;have HM2:=hide (m1.later b1);have HRB2:=hide rB;have HB2:=hide ((hM.below f1).trans (b1.mono m1.lW));have HV2:=hide (((uh HVQ).bl (hM.bl f1)).bl (Bl.below b1))
 have hne1:g≠wk:=fun e=>by
  have q1:=hM.wkm.row;unfold Row at q1;rw[←e,e3] at q1;cases q1
 have hq1:(qo++[(⟨nd,lk,.slice an nd.needs.length cn,.slice am nd.cmds.length cm⟩:Vq)]).length=qo.length+1:=by simp
 clear hM hop hqv e3 m1 f1 rB b1 e2 hq1 hz;have s0:(0:Int)≤(qo.length:Int):=by omega
 go_enter Tryz.func190,Tryz.ntmps190
 go_upto_region 3 with fail
 generalize (W.setCell ⟨wk,4,none⟩ (.slice (some ⟨g,0,none⟩) qo.length cap)).alloc (.cells #[.string ⟨nd.name.toArray⟩,.bool nd.ph,.slice an nd.needs.length cn,.slice am nd.cmds.length cm,.string ⟨nd.stem.toArray⟩] 197)=Z at*;clear a0 a1 a2 a3 a4 d4 f4;have bd:Below Z.heap.size Z Z.drew:=(Below.refl _ Z).drew;obtain⟨w3,hrun,m3,f3,ht3⟩:=stPut ((uh HM2).later bd) hl nd.name
 have r3:=(uh HM2).wkm.row.cell? (i:=3) rfl;have n0:=(uh HRB2).cell? (i:=0) rfl;have HM3:=hide m3;have HB3:=hide (((uh HB2).trans (bd.mono (uh HM2).lW)).trans (((uh HM2).later bd).below f3));have HV3:=hide (((uh HV2).bl (Bl.below bd)).bl (((uh HM2).later bd).bl f3))
 have HRB3:Hid (Row w3 W.heap.size 197 [.string ⟨nd.name.toArray⟩,.bool nd.ph,.slice an nd.needs.length cn,.slice am nd.cmds.length cm,.string ⟨nd.stem.toArray⟩]):=((uh HRB2).later bd).tn (map_tn (p:=fun q=>q=st) ht3 rfl) (row_ne_map' ((uh HRB2).later bd) ((uh HM2).later bd).mp);clear m3 f3 ht3 bd;obtain⟨av,cv,hvv⟩:=own_sh (uh HM3).ovr;subst hvv
 have r5:=(uh HM3).wkm.row.cell? (i:=5) rfl
 by_cases hv100:qv.length≤100
 ·have u1:(qv.length:Int)≤100:=by omega
  have HV100:=hide hv100;have bY:Below w3.heap.size w3 (w3.drew.alloc (.cells #[.string ⟨nd.name.toArray⟩,.bool nd.ph,.slice an nd.needs.length cn,.slice am nd.cmds.length cm,.string ⟨nd.stem.toArray⟩] 197)):=((Below.refl w3.heap.size w3).drew).alloc (Nat.le_refl _) _;have HMY:=hide ((uh HM3).later bY);have HVY:=hide ((uh HV3).bl (Bl.below bY))
  have HRX:=hide (Row.new w3.drew 197 [.string ⟨nd.name.toArray⟩,.bool nd.ph,.slice an nd.needs.length cn,.slice am nd.cmds.length cm,.string ⟨nd.stem.toArray⟩]);have p0:=(uh HRB3).cell? (i:=0) rfl;have p1:=(uh HRB3).cell? (i:=1) rfl;have p2:=(uh HRB3).cell? (i:=2) rfl;have p3:=(uh HRB3).cell? (i:=3) rfl;have p4:=(uh HRB3).cell? (i:=4) rfl;have lb3:=(uh HRB3).lt
  have lk3:=(uh HM3).wkm.row.lt;have hLY:=(uh HMY).lW;have HBY:=hide (bY.mono (uh HM3).lW);clear bY
  go_region
  all_goals go_wp2_with fail
  all_goals go_region_law (first
   |(refine step_append_fresh rfl (.tmp 43) (.tmp 45) 130 rfl L 197 i0 _ 5 88 Tryz.underlying130 hi0 hz0 hz1 hz2 rfl (by decide) _ qv.length (qv.flatMap vnC) (by rfl) (uh HMY).ovr ⟨w3.heap.size,0,none⟩ 1 1 [.string ⟨nd.name.toArray⟩,.bool nd.ph,.slice an nd.needs.length cn,.slice am nd.cmds.length cm,.string ⟨nd.stem.toArray⟩] (by rfl) (by rfl) (fun j u hj=>by rw[addr_add0];exact(uh HRX).cell? hj) (nod_ones ⟨nd,lk,.slice an nd.needs.length cn,.slice am nd.cmds.length cm⟩ rfl rfl) (by unfold maxLen;omega) (by omega) hLY ?_;intro v6 w6 hown6 hgrow6 _;obtain⟨a6,c6,rfl⟩:=own_sh hown6;obtain⟨x1,m6,f6⟩:=(uh HMY).toOver (q:=⟨nd,lk,.slice an nd.needs.length cn,.slice am nd.cmds.length cm⟩) (uh HVY) hown6 hgrow6;have y5:=x1.cell? (i:=5) rfl;have z5:=x1.frozen 5;have HM6:=hide m6;have HF6:=hide f6;clear m6 f6 hown6 hgrow6 x1)
   |fail)
  all_goals go_wp2_with fail
  all_goals go_end0
  all_goals exact⟨rfl,⟨_,_,by first|exact uh HM6|(rw [if_pos (uh HV100)];exact uh HM6)⟩,((uh HB3).trans (uh HBY)).trans ((uh HMY).below (uh HF6))⟩
 ·have u1:¬(qv.length:Int)≤100:=by omega
  have HV100:=hide hv100
  go_region
  all_goals go_wp2_with fail
  all_goals go_end0
  all_goals exact⟨rfl,⟨_,_,by first|exact uh HM3|(rw [if_neg (uh HV100)];exact uh HM3)⟩,uh HB3⟩
end
def goOnF (s:St) (fs:List Pl.File) (us:List (Nat×List Pl.Bs)) (t:Wst):Nat×Wst:=match t.opn.getLast? with
 |none=>(0,t)
 |some x=>if x.2=x.1.needs.length then(0,leaveF t) else enterF s fs us {t with opn:=t.opn.dropLast++[(x.1,x.2+1)]} (x.1.needs.getD x.2 [])
theorem own_frozen {W:World} {B e size n g cap:Nat} {xs:List Value} (h:W.ownsRow B e size (.slice (some ⟨g,0,none⟩) n cap) n xs) (j:Nat):W.frozen? ⟨g,j,none⟩=false:=by
 rcases h.2 with⟨h1,-⟩|⟨g',cap',cur,h1,h2,h3,-⟩
 ·cases h1
 ·cases h1
  simp[World.frozen?,h3]
section
variable {W X Y:World} {L wk st:Nat} {c:Ad} {rb:Nat→Nat} {s:St} {vp:Value} {l:Ents} {bf bi:Nat} {ve:Value} {ef:List Pl.Eff} {fs:List Pl.File} {clock:Int} {us:List (Nat×List Pl.Bs)} {v2 vo vv:Value} {sts:Flags} {qo qv:List Vq} {t:Wst}
theorem GoM.toLook {g cap:Nat} {q:Vq} (h:GoM W L wk st c rb s vp l bf bi ve ef fs clock us v2 (.slice (some ⟨g,0,none⟩) (qo.length+1) cap) vv sts (qo++[q]) qv):
 GoM (W.setCell ⟨g,qo.length*6+5,none⟩ (.int .i64 ((q.lk:Int)+1))) L wk st c rb s vp l bf bi ve ef fs clock us v2 (.slice (some ⟨g,0,none⟩) (qo.length+1) cap) vv sts (qo++[{q with lk:=q.lk+1}]) qv∧Tn (GoP wk st (.slice (some ⟨g,0,none⟩) (qo.length+1) cap) vv) W (W.setCell ⟨g,qo.length*6+5,none⟩ (.int .i64 ((q.lk:Int)+1))):=by
 have ht:Tn (GoP wk st (.slice (some ⟨g,0,none⟩) (qo.length+1) cap) vv) W (W.setCell ⟨g,qo.length*6+5,none⟩ (.int .i64 ((q.lk:Int)+1))):=Tn.set W ⟨g,qo.length*6+5,none⟩ _ (.inr (.inr (.inl rfl)));have hbl:=h.bl ht;have hop:=h.opn;rw[List.length_append,List.length_cons,List.length_nil,Nat.zero_add] at hop
 have hset:=owns_set hop (qo.length*6+5) (.int .i64 ((q.lk:Int)+1))
 have hl:((qo++[q]).flatMap vqC).set (qo.length*6+5) (.int .i64 ((q.lk:Int)+1))=(qo++[{q with lk:=q.lk+1}]).flatMap vqC:=by
  rw[List.flatMap_append,List.flatMap_append,List.set_append_right _ _ (by rw[vq_len];omega),vq_len,Nat.add_sub_cancel_left];rfl
 rw[hl] at hset;have hrow:g≠wk:=fun e=>row_ne_own h.wkm.row hop (by decide) (by rw[←e];rfl)
 have hgs:st≠g:=fun e=>by
  obtain⟨cur,fz,q1⟩:=own_type hop g rfl;obtain⟨es,clk,h1,-⟩:=h.mp;rw[←e,h1] at q1;cases q1
 have hgv:some g≠vv.ownBlock:=fun e=>by
  obtain⟨c1,f1,q1⟩:=own_type h.ovr g e.symm;obtain⟨c2,f2,q2⟩:=own_type hop g rfl;rw[q1] at q2;cases q2
 refine⟨h.next ht (h.wkm.row.other (Ne.symm hrow) _ _) (h.mp.setCell hgs _) (by rw[List.length_append];exact hset) (fun q' hq' => ?_) (owns_other h.ovr hgv _ _) (fun q' hq' =>(h.ovv q' hq').bl hbl),ht⟩
 rcases List.mem_append.1 hq' with e|e
 ·exact(h.opv q' (List.mem_append_left _ e)).bl hbl
 ·rw[List.mem_singleton] at e
  subst e;exact(h.opv q (by simp)).bl hbl
theorem goOn_any (k:Nat) (h:GoS W L wk st c rb s vp l bf bi ve ef fs clock us v2 t) (hx:∀x∈us,x.1<s.rules.length∧(rlOf s x.1).tg≠[]∧(∀y∈(rlOf s x.1).tg,y.length≤2000)∧x.2.length≤2000∧∀n∈x.2,n.length≤2000) (hn:us.length≤1073741824) (hok:Ok s k) (hst:t.sts.length≤4294967296) (hop:t.opn.length≤4294967296)
 (x:Nod×Nat) (hlast:t.opn.getLast?=some x) (hlk:x.2≤x.1.needs.length) (hnl:x.1.needs.length≤4294967296) (hnw:∀y∈x.1.needs,y.length≤1073741824):
 Calls Tryz.prog 143 #[.pointer (some ⟨wk,0,none⟩)] W fun e W' =>e= .returned (.int .i64 ((goOnF s fs us t).1:Int))∧GoS W' L wk st c rb s vp l bf bi ve ef fs clock us v2 (goOnF s fs us t).2∧Below L W W' :=by
 obtain⟨vo,vv,qa,qv,hM,ho,hv⟩:=h
 obtain⟨qo,q,rfl⟩:∃qo q,qa=qo++[q]:=by
  rcases List.eq_nil_or_concat qa with e|⟨a,b,e⟩
  ·rw[e] at ho;rw[←ho] at hlast;cases hlast
  ·exact⟨a,b,by rw[e,List.concat_eq_append]⟩
 rw[List.map_append] at ho;simp only[List.map_cons,List.map_nil] at ho;have hx2:x=(q.nd,q.lk):=by rw[←ho] at hlast;simpa using hlast.symm
 have hdl:t.opn.dropLast=qo.map fun q=>(q.nd,q.lk):=by rw[←ho];simp
 have hlen:qo.length+1=t.opn.length:=by rw[←ho];simp
 subst hx2;simp only at hlk hnl hnw;have hG:goOnF s fs us t=if q.lk=q.nd.needs.length then(0,leaveF t) else enterF s fs us {t with opn:=t.opn.dropLast++[(q.nd,q.lk+1)]} (q.nd.needs.getD q.lk []):=by unfold goOnF;rw[hlast]
 have hLv:leaveF t=⟨flPut t.sts q.nd.name 2,t.opn.dropLast,if t.over.length≤100 then t.over++[q.nd] else t.over⟩:=by unfold leaveF;rw[hlast]
 have hopn:=hM.opn;rw[List.length_append,List.length_cons,List.length_nil,Nat.zero_add] at hopn
 rcases hopn.2 with⟨-,e⟩|⟨g,cap,cur,rfl,e2,e3,e4,-⟩
 ·omega
 have hqv:=hM.opv q (by simp);have a5:=own_cell2 hopn (qo.length*6+5) _ (vq_at qo q 5 _ rfl);have a2:=own_cell2 hopn (qo.length*6+2) _ (vq_at qo q 2 _ rfl);obtain⟨an,cn,hvn⟩:=hqv.1.sh;rw[hvn] at a2;have d4:=hM.wkm.row.cell? (i:=4) rfl;have s0:(0:Int)≤(qo.length:Int):=by omega
 have hlq:qo.length≤4294967296:=by omega
 have hlq1:qo.length+1≤4294967296:=by omega
 have HM:=hide hM;have HV:=hide hv;have HDL:=hide hdl
 by_cases hq:q.lk=q.nd.needs.length
 ·have u1:((q.lk:Int)==(q.nd.needs.length:Int))=true:=by rw[beq_iff_eq];omega
  have CL:Hid (∀w,Below W.heap.size W w→Calls Tryz.prog 190 #[.pointer (some ⟨wk,0,none⟩)] w fun e W' =>e= .returned (.tuple #[])∧GoS W' L wk st c rb s vp l bf bi ve ef fs clock us v2 (leaveF t)∧Below L W W'):=fun w hw=>by
   refine(leave_any q (hM.later hw) hst hlq).mono ?_
   rintro e w' ⟨rfl,⟨vo',vv',m'⟩,b'⟩
   refine⟨rfl,⟨vo',vv',qo,_,by rw[hLv];exact m',by rw[hLv];exact hdl.symm,?_⟩,(hw.mono hM.lW).trans b'⟩;rw[hLv,←hv];simp only[List.length_map];split<;>simp
  rw[hG,if_pos hq];have HQ:=hide hq;clear hM hv hopn hqv e3 ho hdl hG hLv hlast hq hlen
  go_enter Tryz.func143,Tryz.ntmps143
  go_wp2_with fail
  go_region
  all_goals go_wp2_with fail
  all_goals go_region
  all_goals go_wp2_with (first
   |(go_at_call 190;refine(uh CL _ (Below.refl _ W).drew.drew).mono ?_;clear CL;rintro e w1 ⟨rfl,m1,hb1⟩;have HM1:=hide m1;have HB1:=hide hb1;clear m1 hb1)
   |fail)
  all_goals go_ret
  all_goals exact⟨rfl,uh HM1,uh HB1⟩
 ·have u1:((q.lk:Int)==(q.nd.needs.length:Int))=false:=by rw[beq_eq_false_iff_ne];omega
  have hql:q.lk<q.nd.needs.length:=by omega
  obtain⟨mL,fL⟩:=hM.toLook;have hfz:=own_frozen hopn (qo.length*6+5);rw[hG,if_neg hq];have HML:=hide mL;have HFL:=hide fL;have HVN:=hide hvn;clear hG hLv hlast hq hM hv hopn hqv e3 ho hdl hlen mL fL hvn;have hgd:q.nd.needs.getD q.lk []=q.nd.needs[q.lk]:=by simp[hql]
  rw[hgd];obtain⟨ZL,hZL⟩:∃ZL,ZL=W.setCell ⟨g,qo.length*6+5,none⟩ (.int .i64 ((q.lk:Int)+1)):=⟨_,rfl⟩;rw[←hZL] at HML HFL;have HZL:=hide hZL;clear hZL;have hbd:Below ZL.heap.size ZL ZL.drew.drew.drew:=(Below.refl _ ZL).drew.drew.drew
  have CE:=hide (enter_any (t:={t with opn:=t.opn.dropLast++[(q.nd,q.lk+1)]}) q.nd.needs[q.lk] k ⟨_,vv,_,qv,(uh HML).later hbd,by rw[List.map_append,uh HDL];rfl,uh HV⟩ hx hn hok (hnw _ (List.getElem_mem hql)) hst (by simp only;rw[uh HDL,List.length_append,List.length_map,List.length_cons,List.length_nil];omega));have hoL:=(uh HML).opn
  rw[List.length_append,List.length_cons,List.length_nil,Nat.zero_add] at hoL;have e5:=own_cell2 hoL (qo.length*6+5) _ (vq_at qo _ 5 _ rfl);have e2' :=own_cell2 hoL (qo.length*6+2) _ (vq_at qo _ 2 _ rfl);have hqL:=((uh HML).opv {q with lk:=q.lk+1} (by simp)).1;simp only at e5 e2' hqL;rw[uh HVN] at e2' hqL;obtain⟨nb,no,hrd⟩:=hqL.rd;obtain⟨rfl,hnb,hrn⟩:=hrd (by omega)
  have eS:=hrn q.lk q.nd.needs[q.lk] (List.getElem?_eq_getElem hql);unfold strV at eS;have hcast:((q.lk+1:Nat):Int)=(q.lk:Int)+1:=by omega
  rw[hcast] at e5;have t1:(q.lk:Int)<(q.nd.needs.length:Int):=by omega
  have t0:(0:Int)≤(q.lk:Int):=by omega
  have hwr:IntKind.i64.wrap (q.lk:Int)=(q.lk:Int):=wrap_small t0 (by omega);have HBL:=hide (((uh HM).below (uh HFL)).trans (hbd.mono (uh HML).lW));clear hgd hoL hqL hrd hrn hbd hcast;generalize q.nd.needs[q.lk]=nme at*
  go_enter Tryz.func143,Tryz.ntmps143
  go_wp2_with fail
  go_region
  all_goals go_wp2_with fail
  all_goals go_region
  all_goals go_wp2_with fail
  all_goals rw[←uh HZL]
  all_goals clear HZL
  all_goals clear a5 a2 d4 hfz
  all_goals go_region_law (first
   |(go_simp;go_at_call 142;refine(uh CE).mono ?_;rintro e w1 ⟨rfl,m1,hb1⟩;have HM1:=hide m1;have HB1:=hide ((uh HBL).trans hb1);clear m1 hb1)
   |fail)
  all_goals go_wp2_with fail
  all_goals go_ret
  all_goals exact⟨rfl,uh HM1,uh HB1⟩
end
def fromF (s:St) (fs:List Pl.File) (us:List (Nat×List Pl.Bs)):Nat→Nat×Wst→Option (Nat×Wst)
 |0,p=>if p.1≠0∨p.2.opn=[] then some p else none
 |n+1,p=>if p.1≠0∨p.2.opn=[] then some p else fromF s fs us n (goOnF s fs us p.2)
def FromR (s:St) (fs:List Pl.File) (us:List (Nat×List Pl.Bs)) (p r:Nat×Wst):Prop:=∃n,fromF s fs us n p=some r
theorem FromR.stop {s:St} {fs:List Pl.File} {us:List (Nat×List Pl.Bs)} {p:Nat×Wst} (h:p.1≠0∨p.2.opn=[]):FromR s fs us p p:=⟨0,by rw[fromF,if_pos h]⟩
theorem FromR.step {s:St} {fs:List Pl.File} {us:List (Nat×List Pl.Bs)} {p r:Nat×Wst} (h:¬(p.1≠0∨p.2.opn=[])) (hr:FromR s fs us (goOnF s fs us p.2) r):FromR s fs us p r:=by
 obtain⟨n,hn⟩:=hr;exact⟨n+1,by rw[fromF,if_neg h];exact hn⟩
structure FromOk (s:St) (fs:List Pl.File) (us:List (Nat×List Pl.Bs)) (I:Wst→Prop) (m:Wst→Nat):Prop where
 step:∀t x,I t→t.opn.getLast?=some x→(goOnF s fs us t).1=0→I (goOnF s fs us t).2∧m (goOnF s fs us t).2<m t
 lk:∀t x,I t→t.opn.getLast?=some x→x.2≤x.1.needs.length∧x.1.needs.length≤4294967296∧∀y∈x.1.needs,y.length≤1073741824
 sz:∀t,I t→t.sts.length≤4294967296∧t.opn.length≤4294967296
section
variable {W X Y:World} {L wk st:Nat} {c:Ad} {rb:Nat→Nat} {s:St} {vp:Value} {l:Ents} {bf bi:Nat} {ve:Value} {ef:List Pl.Eff} {fs:List Pl.File} {clock:Int} {us:List (Nat×List Pl.Bs)} {v2 vo vv:Value} {t:Wst}
structure FrI (W:World) (L wk st:Nat) (c:Ad) (rb:Nat→Nat) (s:St) (vp:Value) (l:Ents) (bf bi:Nat) (ve:Value) (ef:List Pl.Eff) (fs:List Pl.File) (clock:Int) (us:List (Nat×List Pl.Bs)) (v2:Value) (I:Wst→Prop) (m:Wst→Nat) (p0 p:Nat×Wst) (gk:Nat) (X:World):Prop where
 mem:GoS X L wk st c rb s vp l bf bi ve ef fs clock us v2 p.2
 below:Below L W X
 inv:p.1=0→I p.2∧m p.2<gk
 res:∀r,FromR s fs us p r→FromR s fs us p0 r
theorem from_any (goal:Pl.Bs) (k:Nat) (I:Wst→Prop) (m:Wst→Nat) (hF:FromOk s fs us I m) (h:GoS W L wk st c rb s vp l bf bi ve ef fs clock us v2 t) (h0:(enterF s fs us t goal).1=0→I (enterF s fs us t goal).2) (hx:∀x∈us,x.1<s.rules.length∧(rlOf s x.1).tg≠[]∧(∀y∈(rlOf s x.1).tg,y.length≤2000)∧x.2.length≤2000∧∀n∈x.2,n.length≤2000) (hn:us.length≤1073741824) (hok:Ok s k) (hg:goal.length≤1073741824) (hst:t.sts.length≤4294967296) (hop:t.opn.length≤4294967296):
 Calls Tryz.prog 92 #[.pointer (some ⟨wk,0,none⟩),.string ⟨goal.toArray⟩] W fun e W' =>∃r,FromR s fs us (enterF s fs us t goal) r∧e= .returned (.int .i64 (r.1:Int))∧GoS W' L wk st c rb s vp l bf bi ve ef fs clock us v2 r.2∧Below L W W' :=by
 have CE:=hide (enter_any goal k h hx hn hok hg hst hop);have HF:=hide hF
 have HG:Hid (∀w tt x,GoS w L wk st c rb s vp l bf bi ve ef fs clock us v2 tt→I tt→tt.opn.getLast?=some x→Calls Tryz.prog 143 #[.pointer (some ⟨wk,0,none⟩)] w fun e W' =>e= .returned (.int .i64 ((goOnF s fs us tt).1:Int))∧GoS W' L wk st c rb s vp l bf bi ve ef fs clock us v2 (goOnF s fs us tt).2∧Below L w W'):=fun w tt x hw hI hl=>goOn_any k hw hx hn hok (hF.sz tt hI).1 (hF.sz tt hI).2 x hl (hF.lk tt x hI hl).1 (hF.lk tt x hI hl).2.1 (hF.lk tt x hI hl).2.2
 have H0:=hide h0;clear h hF h0;generalize enterF s fs us t goal=p0 at*
 go_enter Tryz.func92,Tryz.ntmps92
 go_wp2_with (first
  |(go_at_call 142;refine(uh CE).mono ?_;clear CE;rintro e w1 ⟨rfl,m1,hb1⟩;have HI0:Hid (FrI W L wk st c rb s vp l bf bi ve ef fs clock us v2 I m p0 p0 (m p0.2+1) w1):=⟨m1,hb1,fun e=>⟨uh H0 e,Nat.lt_succ_self _⟩,fun r hr=>hr⟩;clear m1 hb1)
  |fail)
 go_loopg [5] (m p0.2+1) (fun gk ev wr=>∃p:Nat×Wst,ev= .int .i64 (p.1:Int)∧Hid (FrI W L wk st c rb s vp l bf bi ve ef fs clock us v2 I m p0 p gk wr))
 case atStart=>exact⟨p0,rfl,HI0⟩
 case round=>
  clear HI0;obtain⟨p,rfl,HI⟩:=hrel;obtain⟨pe,pt⟩:=p;simp only at HI⊢;obtain⟨vo,vv,qo,qv,hM,ho,hv⟩:=(uh HI).mem;obtain⟨av,cv,rfl⟩:=own_sh hM.opn;have d4:=hM.wkm.row.cell? (i:=4) rfl;have hlen:qo.length=pt.opn.length:=by rw[←ho,List.length_map]
  clear hM ho hv
  by_cases he:pe=0
  ·have u1:((pe:Int)==0)=true:=by rw[beq_iff_eq];omega
   by_cases hz:0<qo.length
   ·have u2:(0:Int)<(qo.length:Int):=by omega
    have hne:¬((pe,pt).1≠0∨(pe,pt).2.opn=[]):=fun q=>by
     rcases q with q|q
     ·exact q he
     ·simp only at q;rw[q,List.length_nil] at hlen;omega
    obtain⟨hI,hm⟩:=(uh HI).inv he;simp only at hI hm;cases hl:pt.opn.getLast? with
    |none=>
     rw[List.getLast?_eq_none_iff] at hl;rw[hl,List.length_nil] at hlen;omega
    |some x=>
     have CG:=hide (uh HG wr pt x (uh HI).mem hI hl);have HN:Hid (∀w2,GoS w2 L wk st c rb s vp l bf bi ve ef fs clock us v2 (goOnF s fs us pt).2→Below L wr w2→FrI W L wk st c rb s vp l bf bi ve ef fs clock us v2 I m p0 (goOnF s fs us pt) (m pt) w2):=fun w2 m2 b2=>⟨m2,(uh HI).below.trans b2,fun e=>(uh HF).step pt x hI hl e,fun r hr=>(uh HI).res r (FromR.step hne hr)⟩
     clear hlen he hne hl HI;generalize goOnF s fs us pt=g2 at*
     go_wp2_with (first
      |(go_at_call 143;refine(uh CG).mono ?_;clear CG;rintro e w2 ⟨rfl,m2,hb2⟩;have HN2:=hide (uh HN w2 m2 hb2);clear m2 hb2)
      |fail)
     go_roundg (m pt)
     case measure=>exact hm
     case rel=>exact⟨g2,rfl,HN2⟩
   ·have u2:¬(0:Int)<(qo.length:Int):=by omega
    have hst2:(pe,pt).1≠0∨(pe,pt).2.opn=[]:= .inr (List.eq_nil_of_length_eq_zero (by simp only;omega));have HR:=hide ((uh HI).res _ (FromR.stop hst2));have HM:=hide (uh HI).mem;have HB:=hide (uh HI).below;clear hlen he hst2 HI
    go_wp2_with fail
    go_ret
    first|exact⟨_,_,uh HR,rfl,uh HM,uh HB⟩|exact⟨_,uh HR,rfl,uh HM,uh HB⟩
  ·have u1:((pe:Int)==0)=false:=by rw[beq_eq_false_iff_ne];omega
   have HR:=hide ((uh HI).res _ (FromR.stop (.inl he)));have HM:=hide (uh HI).mem;have HB:=hide (uh HI).below;clear hlen he HI
   go_wp2_with fail
   go_ret
   first|exact⟨_,_,uh HR,rfl,uh HM,uh HB⟩|exact⟨_,uh HR,rfl,uh HM,uh HB⟩
end
end Go.Proofs.YtjelacjggijmfaaGreatDoor
