/-
  The laws' own on webs: what the commands do, one of them with an exit.
-/
import Derived.Test.YtjelacjggijmfaaGreatDoorTZR
namespace Go.Proofs.YtjelacjggijmfaaGreatDoor
open Go.RowKit
theorem cell_set_off {w:World} {b o p:Nat} (u:Value) (h:p≠o):(w.setCell ⟨b,o,none⟩ u).cell? ⟨b,p,none⟩=w.cell? ⟨b,p,none⟩:=World.cell?_setCell_other w ⟨b,o,none⟩ ⟨b,p,none⟩ u (fun e=>h (by cases e;rfl))
theorem DoI.exit {W0 w:World} {b cap:Nat} {bs:Nat→Nat} {N:List Int} (h:DoI W0 w (.slice (some ⟨b,0,none⟩) (manyW N) cap) bs (manyW N)) {k:Nat} (hk:k<manyW N) (ex:Int):RdE (w.setCell ⟨b,k*3+2,none⟩ (.int .i64 ex)) w.heap.size b 0 (doesW N (exK k ex)):=by
 obtain⟨a,cap',g',q1,q2,q3,q4⟩:=own_read h.own;cases q1;cases q2 (many_le N).1;refine⟨q3 (many_le N).1,fun i hi=> ?_⟩;have hi' :i<manyW N:=by unfold doesW at hi;simpa using hi
 have e:(doesW N (exK k ex))[i]=⟨wNm i,[⟨Mk.nmB i,madeB,0⟩],exK k ex i⟩:=by simp only[doesW,List.getElem_map,List.getElem_range]
 have c:∀j (u:Value),j<3→(efC (bs i) i)[j]?=some u→w.cell? ⟨b,i*3+j,none⟩=some u:=fun j u hj hu=>by
  have h3:=efsC_at bs (manyW N) i j hi' hj;rw[hu] at h3;exact q4 _ _ h3
 have hne:bs i≠b:=fun q=>by
  have hr:=h.rows i hi'
  rcases h.own.2 with⟨h1,-⟩|⟨g,cap,cur,h1,-,h3,-⟩
  ·cases h1
  ·cases h1
   unfold Row at hr;rw[q,h3] at hr;cases hr
 have hr:=(h.rows i hi').other hne (k*3+2) (.int .i64 ex);rw[e,Nat.zero_add];refine⟨?_,?_,some ⟨bs i,0,none⟩,1,bs i,0,?_,fun _=>rfl,fun j hj=> ?_,?_⟩
 ·rw[cell_set_off _ (by omega)]
  have:=c 0 _ (by decide) rfl;rw[Nat.add_zero] at this;exact this
 ·by_cases q:i=k
  ·subst q
   have hc:=c 2 _ (by decide) rfl;have:exK i ex i=ex:=if_pos rfl;simp only[this];exact World.cell?_setCell_same w ⟨b,i*3+2,none⟩ _ hc
  ·rw[cell_set_off _ (by omega)]
   have:exK k ex i=0:=if_neg q;simp only[this];exact c 2 _ (by decide) rfl
 ·rw[cell_set_off _ (by omega)]
  exact c 1 _ (by decide) rfl
 ·have hj0:j=0:=by simpa using hj
  subst hj0;exact⟨hr.cell 0 (by unfold mkC;simp),hr.cell 1 (by unfold mkC;simp),hr.cell 2 (by unfold mkC;simp)⟩
 ·exact(h.rows i hi').lt
theorem DoI.place {W0 w:World} {b cap:Nat} {bs:Nat→Nat} {N:List Int} (h:DoI W0 w (.slice (some ⟨b,0,none⟩) (manyW N) cap) bs (manyW N)) {k:Nat} (hk:k<manyW N):w.cell? ⟨b,k*3+2,none⟩=some (.int .i64 0)∧w.frozen? ⟨b,k*3+2,none⟩=false:=by
 obtain⟨a,cap',g',q1,q2,q3,q4⟩:=own_read h.own;cases q1;cases q2 (many_le N).1;exact⟨q4 _ _ (efsC_at bs (manyW N) k 2 hk (by decide)),own_frozen h.own _⟩
set_option maxHeartbeats 4000000 in
set_option maxRecDepth 20000 in
theorem wdoes_more {N T:List Int} {v:Value} {W:World} (h:WbM W v N T):Calls Tryz.prog 35 #[v] W fun e w' =>∃W1 b cap bs,e= .returned (.slice (some ⟨b,0,none⟩) (manyW N) cap)∧W.heap.size≤b∧DoI W1 w' (.slice (some ⟨b,0,none⟩) (manyW N) cap) bs (manyW N)∧Below W.heap.size W w' :=by
 obtain⟨i0,hi,hz0,hz1,hz2⟩:=info_parts Tryz.infoEf;have h' :=h;obtain⟨⟨an,cn,bn,on,at',ct,bt,ot,rfl,-,-⟩,-,-,-,-⟩:=h';have hb0:Below W.heap.size W (W.alloc (.cells #[.slice an N.length cn,.slice at' T.length ct] 76)):=(Below.refl _ _).alloc (Nat.le_refl _) _;have hR:=Row.new W 76 [.slice an N.length cn,.slice at' T.length ct]
 have hs0:(W.alloc (.cells #[.slice an N.length cn,.slice at' T.length ct] 76)).heap.size=W.heap.size+1:=World.size_alloc _ _;generalize hW0:W.alloc (.cells #[.slice an N.length cn,.slice at' T.length ct] 76)=W0 at*;have hbw:∀w',Below W0.heap.size W0 w' →Below W.heap.size W w' :=fun w' hb=>hb0.trans (hb.mono (by omega))
 have CM:Hid (∀w',Below W0.heap.size W0 w' →Calls Tryz.prog 32 #[.agg #[.slice an N.length cn,.slice at' T.length ct]] w' fun e w2=>e= .returned (.int .i64 (manyW N:Int))∧Below w'.heap.size w' w2):=fun w' hb=>many_any (h.later (hbw w' hb))
 have CA:Hid (∀w' (k:Nat),k<12→Calls Tryz.prog 34 #[.int .i64 (k:Int)] w' fun e w2=>e= .returned (.string ⟨(Mk.nmB k).toArray⟩)∧Below w'.heap.size w' w2):=fun w' k hk=>name_any k w' hk
 have hm:=many_le N;have HC:Hid (∀w',Below W0.heap.size W0 w' →w'.cell? ⟨W.heap.size,0,none⟩=some (.slice an N.length cn)∧w'.cell? ⟨W.heap.size,1,none⟩=some (.slice at' T.length ct)):=fun w' hb=>⟨(hR.later hb).cell 0 (by simp),(hR.later hb).cell 1 (by simp)⟩
 have HBW:=hide hbw;have HSZ:=hide hs0;have HI:=hide hi;have HZ0:=hide hz0;have HZ1:=hide hz1;have HZ2:=hide hz2;have HO:Hid (DoI W0 W0 (.slice none 0 0) (fun _=>0) 0):=⟨Below.refl _ _,World.ownsRow_nil _ _ _ _,fun k hk=>by omega⟩;clear hR hb0 hs0 hbw h hi hz0 hz1 hz2
 go_enter Tryz.func35,Tryz.ntmps35
 go_wp2_with fail
 clear hW0
 go_loopw [3,4] (fun vl iv wr=>∃(i:Nat) (bs:Nat→Nat),iv= .int .i64 i∧i≤manyW N∧Hid (DoI W0 wr vl bs i)) (fun _ iv _=>manyW N-intN iv)
 case atStart=>exact⟨0,_,rfl,by omega,HO⟩
 case round=>
  clear HO;obtain⟨i,bs,rfl,hi,HO⟩:=hrel;obtain⟨c0,c1⟩:=uh HC _ (uh HO).below;obtain⟨sa,sc,hvs⟩:=own_shape (uh HO).own;subst hvs
  by_cases hk:i<manyW N
  ·have t1:(i:Int)<(manyW N:Int):=by omega
   have l2:(Mk.nmB i).length=2:=rfl;have hcat:(⟨#[119,32]⟩:ByteArray)++⟨(Mk.nmB i).toArray⟩=⟨(wNm i).toArray⟩:=mk_eq (by unfold wNm;simp)
   go_wp2_with (first
    |(go_at_call 32;refine(uh CM _ (uh HO).below).mono ?_;rintro e w2 ⟨rfl,hb2⟩;have HO2:=hide ((uh HO).later hb2);clear HO c0 c1;have HO:=HO2;clear HO2 hb2)
    |(go_at_call 34;refine(uh CA _ i (by omega)).mono ?_;rintro e w2 ⟨rfl,hb2⟩;have HO2:=hide ((uh HO).later hb2);clear HO;have HO:=HO2;clear HO2 hb2)
    |(at_builtin;refine wpList_append_own _ rfl (.tmp 11) (.tmp 20) 51 rfl W0.heap.size 73 i0 _ 3 48 Tryz.underlying51 (uh HI) (uh HZ0) (uh HZ1) (uh HZ2) rfl (by decide) _ i _ rfl (World.ownsRow.alloc (World.ownsRow.alloc (uh HO).own _) _) ⟨_,0,none⟩ 1 1 (efC w2.heap.size i) rfl rfl (by have:=cells_new (w2.alloc (.cells (mkC i).toArray 65)) 73 (efC w2.heap.size i);rw[World.size_alloc] at this;exact this) (efC_one _ _) (by unfold maxLen;omega) (by omega) (by rw[World.size_alloc,World.size_alloc];have:=(uh HO).below.size;omega) ?_;intro v1 w3 hown1 hgrow1 hnil1;have HO1:Hid (DoI W0 w3 v1 (fun k=>if k=i then w2.heap.size else bs k) (i+1)):=(((uh HO).later ((Below.refl _ w2).alloc (Nat.le_refl _) (.cells (mkC i).toArray 65))).later ((Below.refl _ _).alloc (Nat.le_refl _) (.cells (efC w2.heap.size i).toArray 73))).next ((Row.new w2 65 (mkC i)).alloc _) hown1 hgrow1;clear hown1 hgrow1 hnil1)
    |fail)
   go_roundw
   case rel=>exact⟨i+1,_,by go_num,by omega,HO1⟩
   case measure=>simp only[intN];omega
  ·have t1:¬(i:Int)<(manyW N:Int):=by omega
   have hie:i=manyW N:=by omega
   subst hie
   go_wp2_with (first
    |(go_at_call 32;refine(uh CM _ (uh HO).below).mono ?_;rintro e w2 ⟨rfl,hb2⟩;have HO2:=hide ((uh HO).later hb2);clear HO c0 c1;have HO:=HO2;clear HO2 hb2)
    |fail)
   go_ret
   obtain⟨b,cap,e1,e2,e3⟩:=(uh HO).read;cases e1;exact⟨W0,b,sc,bs,rfl,by have:=uh HSZ;omega,uh HO,uh HBW _ (uh HO).below⟩
end Go.Proofs.YtjelacjggijmfaaGreatDoor
