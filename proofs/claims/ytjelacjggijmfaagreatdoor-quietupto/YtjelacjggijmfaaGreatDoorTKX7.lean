/-
  For the laws' rows: what all of them share.
-/
import Derived.Test.YtjelacjggijmfaaGreatDoorTKW6
import Derived.Test.YtjelacjggijmfaaGreatDoorTWP7
import Derived.Test.YtjelacjggijmfaaGreatDoorTGH3
import Derived.Test.YtjelacjggijmfaaGreatDoorTKX6
import Derived.Deep.RegionHeld3
import Derived.Test.YtjelacjggijmfaaGreatDoorRows
import Derived.ProofKit
import Derived.OpenShut
import Derived.JoinedCond
import Derived.Deep.Slices
import Derived.Carry
import Derived.Test.YtjelacjggijmfaaGreatDoorTWB6
import Derived.Test.YtjelacjggijmfaaGreatDoorCards
import Derived.Test.YtjelacjggijmfaaGreatDoorTie
import Derived.Test.YtjelacjggijmfaaGreatDoorTGRL
import Derived.Deep.DeepHandedRow
import Derived.Lib.LaidTab
set_option maxHeartbeats 4000000
set_option maxRecDepth 100000
namespace Go.Proofs.YtjelacjggijmfaaGreatDoor
open Go.RowKit
def fTo (N T:List Int) (i:Nat):List Pl.File:=⟨[82],webT (JW N) (manyW N),0⟩::((List.range i).filter fun i=>decide (0≤timeW T i)).map fun i=>⟨Mk.nmB i,[],timeW T i⟩
theorem fTo_yes {N T:List Int} {i:Nat} (h:0≤timeW T i):fTo N T (i+1)=fTo N T i++[⟨Mk.nmB i,[],timeW T i⟩]:=by
 unfold fTo;rw[List.range_succ,List.filter_append,List.map_append];simp[h]
theorem fTo_no {N T:List Int} {i:Nat} (h:¬0≤timeW T i):fTo N T (i+1)=fTo N T i:=by
 unfold fTo;rw[List.range_succ,List.filter_append,List.map_append];simp[h]
theorem fTo_len (N T:List Int) (i:Nat):(fTo N T i).length≤i+1:=by
 unfold fTo;have:=List.length_filter_le (fun i=>decide (0≤timeW T i)) (List.range i);rw[List.length_range] at this;simp only[List.length_cons,List.length_map];omega
theorem wfiles_any {N T:List Int} {v:Value} {W:World} (h:WbM W v N T):Calls Tryz.prog 33 #[v] W fun e w' =>∃u,e= .returned u∧AFls w' W.heap.size u (filesW N T)∧Below W.heap.size W w' :=by
 obtain⟨i0,hi,hz0,hz1,hz2⟩:=info_parts Tryz.infoAFile;have h' :=h;obtain⟨⟨an,cn,bn,on,at',ct,bt,ot,rfl,-,-⟩,-,-,-,-⟩:=h';have hb0:Below W.heap.size W (W.alloc (.cells #[.slice an N.length cn,.slice at' T.length ct] 76)):=(Below.refl _ _).alloc (Nat.le_refl _) _;have hR:=Row.new W 76 [.slice an N.length cn,.slice at' T.length ct]
 have hs0:(W.alloc (.cells #[.slice an N.length cn,.slice at' T.length ct] 76)).heap.size=W.heap.size+1:=World.size_alloc _ _;generalize hW0:W.alloc (.cells #[.slice an N.length cn,.slice at' T.length ct] 76)=W0 at*;have hbw:∀w',Below W0.heap.size W0 w' →Below W.heap.size W w' :=fun w' hb=>hb0.trans (hb.mono (by omega))
 have CM:Hid (∀w',Below W0.heap.size W0 w' →Calls Tryz.prog 32 #[.agg #[.slice an N.length cn,.slice at' T.length ct]] w' fun e w2=>e= .returned (.int .i64 (manyW N:Int))∧Below w'.heap.size w' w2):=fun w' hb=>many_any (h.later (hbw w' hb))
 have CT:Hid (∀w' (i:Nat),i<12→Below W0.heap.size W0 w' →Calls Tryz.prog 63 #[.agg #[.slice an N.length cn,.slice at' T.length ct],.int .i64 (i:Int)] w' fun e w2=>e= .returned (.int .i64 (timeW T i))∧Below w'.heap.size w' w2):=fun w' i hi hb=>time_any (h.later (hbw w' hb)) i hi
 have CR:Hid (∀w',Below W0.heap.size W0 w' →Calls Tryz.prog 62 #[.agg #[.slice an N.length cn,.slice at' T.length ct]] w' fun e w2=>e= .returned (.string ⟨(webT (JW N) (manyW N)).toArray⟩)∧Below w'.heap.size w' w2):=fun w' hb=>rules_any (h.later (hbw w' hb))
 have CA:Hid (∀w' (k:Nat),k<12→Calls Tryz.prog 34 #[.int .i64 (k:Int)] w' fun e w2=>e= .returned (.string ⟨(Mk.nmB k).toArray⟩)∧Below w'.heap.size w' w2):=fun w' k hk=>name_any k w' hk
 have hm:=many_le N;have HC:Hid (∀w',Below W0.heap.size W0 w' →w'.cell? ⟨W.heap.size,0,none⟩=some (.slice an N.length cn)∧w'.cell? ⟨W.heap.size,1,none⟩=some (.slice at' T.length ct)):=fun w' hb=>⟨(hR.later hb).cell 0 (by simp),(hR.later hb).cell 1 (by simp)⟩
 have HBW:=hide hbw;have H0:=hide (Below.refl W0.heap.size W0);have HSZ:=hide hs0;obtain⟨c0,c1⟩:=uh HC W0 (uh H0);have HI:=hide hi;have HZ0:=hide hz0;have HZ1:=hide hz1;have HZ2:=hide hz2;clear hR hb0 hs0 hbw h hi hz0 hz1 hz2
 go_enter Tryz.func33,Tryz.ntmps33
 go_wp2_with (first
  |(go_at_call 62;refine(uh CR _ (uh H0)).mono ?_;rintro e w1 ⟨rfl,hb1⟩;have HB1:=hide hb1;clear hb1 c0 c1)
  |fail)
 have HO:Hid (AFls (w1.alloc (.cells #[.string ⟨#[82]⟩,.string ⟨(webT (JW N) (manyW N)).toArray⟩,.int .i64 0] 65)) W0.heap.size (.slice (some ⟨w1.heap.size,0,none⟩) 1 1) (fTo N T 0)):=World.ownsRow_lit w1 #[.string ⟨#[82]⟩,.string ⟨(webT (JW N) (manyW N)).toArray⟩,.int .i64 0] 1 (uh HB1).size (by decide) rfl
 have HB2:Hid (Below W0.heap.size W0 (w1.alloc (.cells #[.string ⟨#[82]⟩,.string ⟨(webT (JW N) (manyW N)).toArray⟩,.int .i64 0] 65))):=(uh HB1).alloc (uh HB1).size _;generalize w1.alloc (.cells #[.string ⟨#[82]⟩,.string ⟨(webT (JW N) (manyW N)).toArray⟩,.int .i64 0] 65)=W2 at*;clear hW0 HB1 H0
 go_loopw [3,4] (fun vl iv wr=>∃i:Nat,iv= .int .i64 i∧i≤manyW N∧Hid (AFls wr W0.heap.size vl (fTo N T i))∧Hid (Below W0.heap.size W0 wr)) (fun _ iv _=>manyW N-intN iv)
 case atStart=>exact⟨0,rfl,by omega,HO,HB2⟩
 case round=>
  clear HO HB2;obtain⟨i,rfl,hi,HO,HB⟩:=hrel;obtain⟨c0,c1⟩:=uh HC _ (uh HB);obtain⟨sa,sc,hvs⟩:=own_shape (uh HO);subst hvs;have hfl:=fTo_len N T i
  by_cases hk:i<manyW N
  ·have t1:(i:Int)<(manyW N:Int):=by omega
   by_cases ht:0≤timeW T i
   ·have HT:=hide (fTo_yes (N:=N) ht)
    have t2:(0:Int)≤timeW T i:=ht
    go_wp2_with (first
     |(go_at_call 32;refine(uh CM _ (uh HB)).mono ?_;rintro e w2 ⟨rfl,hb2⟩;have HO2:=hide (own_same (uh HO) (fun k hk=>hb2.block k ((uh HO).lt k hk).2));have HB2:=hide ((uh HB).trans (hb2.mono (uh HB).size));clear HO HB c0 c1;have HO:=HO2;have HB:=HB2;clear HO2 HB2 hb2;obtain⟨c0,c1⟩:=uh HC _ (uh HB))
     |(go_at_call 63;refine(uh CT _ i (by omega) (uh HB)).mono ?_;rintro e w2 ⟨rfl,hb2⟩;have HO2:=hide (own_same (uh HO) (fun k hk=>hb2.block k ((uh HO).lt k hk).2));have HB2:=hide ((uh HB).trans (hb2.mono (uh HB).size));clear HO HB c0 c1;have HO:=HO2;have HB:=HB2;clear HO2 HB2 hb2)
     |(go_at_call 34;refine(uh CA _ i (by omega)).mono ?_;rintro e w2 ⟨rfl,hb2⟩;have HO2:=hide (own_same (uh HO) (fun k hk=>hb2.block k ((uh HO).lt k hk).2));have HB2:=hide ((uh HB).trans (hb2.mono (uh HB).size));clear HO HB;have HO:=HO2;have HB:=HB2;clear HO2 HB2 hb2)
     |(at_builtin;refine wpList_append_own _ rfl (.tmp 21) (.tmp 26) 27 rfl W0.heap.size 65 i0 _ 3 40 Tryz.underlying27 (uh HI) (uh HZ0) (uh HZ1) (uh HZ2) rfl (by decide) _ (fTo N T i).length _ rfl (World.ownsRow.alloc (uh HO) _) ⟨_,0,none⟩ 1 1 (fileC ⟨Mk.nmB i,[],timeW T i⟩) rfl rfl (cells_new _ _ (fileC ⟨Mk.nmB i,[],timeW T i⟩)) (file_one _) (by unfold maxLen;omega) (by omega) (by rw[World.size_alloc];have:=(uh HB).size;omega) ?_;intro v1 w3 hown1 hgrow1 hnil1;have HO1:=hide hown1;have HB1:Hid (Below W0.heap.size W0 w3):=(by have hg' :=(World.grownBy_alloc w2 _ _).trans hgrow1;exact(uh HB).trans ⟨hg'.os,hg'.tape,hg'.output,hg'.size,fun q hq=>hg'.block q (by have:=(uh HB).size;omega) (own_ne (uh HO) hq)⟩);clear hown1 hgrow1 hnil1)
     |fail)
    go_roundw
    case rel=>
     refine⟨i+1,by go_num,by omega,?_,HB1⟩;rw[uh HT];show World.ownsRow _ _ _ _ _ _ _;rw[filesC_snoc,List.length_append];exact uh HO1
    case measure=>simp only[intN];omega
   ·have HT:=hide (fTo_no (N:=N) ht)
    have t2:¬(0:Int)≤timeW T i:=ht
    go_wp2_with (first
     |(go_at_call 32;refine(uh CM _ (uh HB)).mono ?_;rintro e w2 ⟨rfl,hb2⟩;have HO2:=hide (own_same (uh HO) (fun k hk=>hb2.block k ((uh HO).lt k hk).2));have HB2:=hide ((uh HB).trans (hb2.mono (uh HB).size));clear HO HB c0 c1;have HO:=HO2;have HB:=HB2;clear HO2 HB2 hb2;obtain⟨c0,c1⟩:=uh HC _ (uh HB))
     |(go_at_call 63;refine(uh CT _ i (by omega) (uh HB)).mono ?_;rintro e w2 ⟨rfl,hb2⟩;have HO2:=hide (own_same (uh HO) (fun k hk=>hb2.block k ((uh HO).lt k hk).2));have HB2:=hide ((uh HB).trans (hb2.mono (uh HB).size));clear HO HB c0 c1;have HO:=HO2;have HB:=HB2;clear HO2 HB2 hb2)
     |fail)
    go_roundw
    case rel=>
     refine⟨i+1,by go_num,by omega,?_,HB⟩;rw[uh HT];exact HO
    case measure=>simp only[intN];omega
  ·have t1:¬(i:Int)<(manyW N:Int):=by omega
   have hie:i=manyW N:=by omega
   subst hie
   go_wp2_with (first
    |(go_at_call 32;refine(uh CM _ (uh HB)).mono ?_;rintro e w2 ⟨rfl,hb2⟩;have HO2:=hide (own_same (uh HO) (fun k hk=>hb2.block k ((uh HO).lt k hk).2));have HB2:=hide ((uh HB).trans (hb2.mono (uh HB).size));clear HO HB c0 c1;have HO:=HO2;have HB:=HB2;clear HO2 HB2 hb2)
    |fail)
   go_ret
   exact⟨_,rfl,own_mono (uh HO) (by rw[uh HSZ];omega),uh HBW _ (uh HB)⟩
theorem Tryz.infoEf:(Tryz.prog.info? 73).map (fun i=>(i.zero,i.size,i.bytes))=some (some (.agg #[.string ⟨#[]⟩,.slice none 0 0,.int .i64 0]),3,48):=by kernel_rfl
def efC (b k:Nat):List Value:=[strV (wNm k),.slice (some ⟨b,0,none⟩) 1 1,.int .i64 0]
def efsC (bs:Nat→Nat) (i:Nat):List Value:=(List.range i).flatMap fun k=>efC (bs k) k
def mkC (k:Nat):List Value:=[strV (Mk.nmB k),strV madeB,.int .i64 0]
theorem efsC_next (bs:Nat→Nat) (i:Nat):efsC bs (i+1)=efsC bs i++efC (bs i) i:=by
 unfold efsC;rw[List.range_succ,List.flatMap_append];simp
theorem efsC_same {bs cs:Nat→Nat} {i:Nat} (h:∀k,k<i→cs k=bs k):efsC cs i=efsC bs i:=by
 unfold efsC
 have:∀l:List Nat,(∀k∈l,k<i)→l.flatMap (fun k=>efC (cs k) k)=l.flatMap fun k=>efC (bs k) k:=fun l hl=>by
  induction l with
  |nil=>rfl
  |cons x r ih=>rw[List.flatMap_cons,List.flatMap_cons,h x (hl x (List.mem_cons_self ..)),ih fun k hk=>hl k (List.mem_cons_of_mem _ hk)]
 exact this _ fun k hk=>List.mem_range.1 hk
theorem efC_one (b k:Nat):∀u∈efC b k,u.oneCell' =true:=by
 intro u hu;unfold efC strV at hu;simp only[List.mem_cons,List.not_mem_nil,or_false] at hu
 rcases hu with rfl|rfl|rfl<;>rfl
structure DoI (W0 w:World) (v:Value) (bs:Nat→Nat) (i:Nat):Prop where
 below:Below W0.heap.size W0 w
 own:w.ownsRow W0.heap.size 73 3 v i (efsC bs i)
 rows:∀k,k<i→Row w (bs k) 65 (mkC k)
section
variable {W0 w w' :World} {v:Value} {bs:Nat→Nat} {i:Nat}
theorem DoI.later (h:DoI W0 w v bs i) (hb:Below w.heap.size w w'):DoI W0 w' v bs i:=⟨h.below.trans (hb.mono h.below.size),own_same h.own (fun k hk=>hb.block k (h.own.lt k hk).2),fun k hk=>(h.rows k hk).later hb⟩
theorem DoI.next (h:DoI W0 w v bs i) {b:Nat} (hb:Row w b 65 (mkC i)) {v' :Value} (ho:w'.ownsRow W0.heap.size 73 3 v' (i+1) (efsC bs i++efC b i)) (hg:w.grownBy w' v.ownBlock):DoI W0 w' v' (fun k=>if k=i then b else bs k) (i+1):=by
 have apart:∀c l,Row w c 65 l→some c≠v.ownBlock:=fun c l hc e=>by
  rcases h.own.2 with⟨h1,-⟩|⟨g,cap,cur,h1,-,h3,-⟩
  ·rw[h1] at e;cases e
  ·rw[h1] at e
   cases e;have hc' :w.heap[g]?=some (.cells l.toArray 65 (0,0)):=hc;rw[h3] at hc';cases hc'
 refine⟨h.below.trans ⟨hg.os,hg.tape,hg.output,hg.size,fun q hq=>hg.block q (by have:=h.below.size;omega) (own_ne h.own hq)⟩,?_,fun k hk=> ?_⟩
 ·rw[efsC_next,efsC_same (bs:=bs) (fun k hk=>if_neg (by omega)),if_pos rfl]
  exact ho
 ·by_cases e:k=i
  ·subst e
   simp only[if_true];exact hb.grown hg (apart _ _ hb)
  ·simp only[if_neg e]
   exact(h.rows k (by omega)).grown hg (apart _ _ (h.rows k (by omega)))
theorem efsC_at (bs:Nat→Nat):∀(i k j:Nat),k<i→j<3→(efsC bs i)[k*3+j]?=(efC (bs k) k)[j]?
 |0,k,_,h,_=>by omega
 |i+1,k,j,h,hj=>by
  have hl:(efsC bs i).length=i*3:=by
   unfold efsC;rw[List.length_flatMap];simp[efC,List.map_const',List.sum_replicate_nat]
  rw[efsC_next]
  by_cases e:k=i
  ·subst e
   rw[List.getElem?_append_right (by omega),hl]
   congr 1
   omega
  ·rw[List.getElem?_append_left (by omega)]
   exact efsC_at bs i k j (by omega) hj
theorem DoI.read {N:List Int} (h:DoI W0 w v bs (manyW N)):∃b cap,v= .slice (some ⟨b,0,none⟩) (manyW N) cap∧W0.heap.size≤b∧RdE w w.heap.size b 0 (doesW N fun _=>0):=by
 obtain⟨g,cap,rfl,h1,h2⟩:=owns_form h.own (many_le N).1;obtain⟨a,cap',g',q1,q2,-,q4⟩:=own_read h.own;cases q1;cases q2 (many_le N).1;refine⟨g,cap,rfl,h1,h2,fun k hk=> ?_⟩;have hk' :k<manyW N:=by unfold doesW at hk;simpa using hk
 have e:(doesW N fun _=>0)[k]=⟨wNm k,[⟨Mk.nmB k,madeB,0⟩],0⟩:=by simp only[doesW,List.getElem_map,List.getElem_range]
 have c:∀j (u:Value),j<3→(efC (bs k) k)[j]?=some u→w.cell? ⟨g,k*3+j,none⟩=some u:=fun j u hj hu=>by
  have h3:=efsC_at bs (manyW N) k j hk' hj;rw[hu] at h3;exact q4 _ _ h3
 have hr:=h.rows k hk';rw[e,Nat.zero_add];refine⟨?_,c 2 _ (by decide) rfl,some ⟨bs k,0,none⟩,1,bs k,0,c 1 _ (by decide) rfl,fun _=>rfl,fun j hj=> ?_,hr.lt⟩
 ·have:=c 0 _ (by decide) rfl
  rw[Nat.add_zero] at this;exact this
 ·have hj0:j=0:=by simpa using hj
  subst hj0;exact⟨hr.cell 0 (by unfold mkC;simp),hr.cell 1 (by unfold mkC;simp),hr.cell 2 (by unfold mkC;simp)⟩
end
theorem wdoes_any {N T:List Int} {v:Value} {W:World} (h:WbM W v N T):Calls Tryz.prog 35 #[v] W fun e w' =>∃b cap,e= .returned (.slice (some ⟨b,0,none⟩) (manyW N) cap)∧W.heap.size≤b∧RdE w' w'.heap.size b 0 (doesW N fun _=>0)∧Below W.heap.size W w' :=by
 obtain⟨i0,hi,hz0,hz1,hz2⟩:=info_parts Tryz.infoEf;have h' :=h;obtain⟨⟨an,cn,bn,on,at',ct,bt,ot,rfl,-,-⟩,-,-,-,-⟩:=h';have hb0:Below W.heap.size W (W.alloc (.cells #[.slice an N.length cn,.slice at' T.length ct] 76)):=(Below.refl _ _).alloc (Nat.le_refl _) _;have hR:=Row.new W 76 [.slice an N.length cn,.slice at' T.length ct]
 have hs0:(W.alloc (.cells #[.slice an N.length cn,.slice at' T.length ct] 76)).heap.size=W.heap.size+1:=World.size_alloc _ _;generalize hW0:W.alloc (.cells #[.slice an N.length cn,.slice at' T.length ct] 76)=W0 at*;have hbw:∀w',Below W0.heap.size W0 w' →Below W.heap.size W w' :=fun w' hb=>hb0.trans (hb.mono (by omega))
 have CM:Hid (∀w',Below W0.heap.size W0 w' →Calls Tryz.prog 32 #[.agg #[.slice an N.length cn,.slice at' T.length ct]] w' fun e w2=>e= .returned (.int .i64 (manyW N:Int))∧Below w'.heap.size w' w2):=fun w' hb=>many_any (h.later (hbw w' hb))
 have CA:Hid (∀w' (k:Nat),k<12→Calls Tryz.prog 34 #[.int .i64 (k:Int)] w' fun e w2=>e= .returned (.string ⟨(Mk.nmB k).toArray⟩)∧Below w'.heap.size w' w2):=fun w' k hk=>name_any k w' hk
 have hm:=many_le N;have HC:Hid (∀w',Below W0.heap.size W0 w' →w'.cell? ⟨W.heap.size,0,none⟩=some (.slice an N.length cn)∧w'.cell? ⟨W.heap.size,1,none⟩=some (.slice at' T.length ct)):=fun w' hb=>⟨(hR.later hb).cell 0 (by simp),(hR.later hb).cell 1 (by simp)⟩
 have HBW:=hide hbw;have HSZ:=hide hs0;have HI:=hide hi;have HZ0:=hide hz0;have HZ1:=hide hz1;have HZ2:=hide hz2;have HO:Hid (DoI W0 W0 (.slice none 0 0) (fun _=>0) 0):=⟨Below.refl _ _,World.ownsRow_nil _ _ _ _,fun k hk=>by omega⟩;clear hR hb0 hs0 hbw h hi hz0 hz1 hz2
 go_enter Tryz.func35,Tryz.ntmps35
 go_wp2_with fail
 clear hW0
 go_loopw [3,4] (fun vl iv wr=>∃(i:Nat) (bs:Nat→Nat),iv= .int .i64 i∧i≤manyW N∧Hid (DoI W0 wr vl bs i)) (fun _ iv _=>manyW N-intN iv)
 case atStart=>exact⟨0,_,rfl,by omega,HO⟩
 case round=>
  clear HO;obtain⟨i,bs,rfl,hi,HO⟩:=hrel;obtain⟨c0,c1⟩:=uh HC _ (uh HO).below;obtain⟨sa,sc,hvs⟩:=own_shape (uh HO).own;subst hvs
  by_cases hk:i<manyW N
  ·have t1:(i:Int)<(manyW N:Int):=by omega
   have l2:(Mk.nmB i).length=2:=rfl;have hcat:(⟨#[119,32]⟩:ByteArray)++⟨(Mk.nmB i).toArray⟩=⟨(wNm i).toArray⟩:=mk_eq (by unfold wNm;simp)
   go_wp2_with (first
    |(go_at_call 32;refine(uh CM _ (uh HO).below).mono ?_;rintro e w2 ⟨rfl,hb2⟩;have HO2:=hide ((uh HO).later hb2);clear HO c0 c1;have HO:=HO2;clear HO2 hb2)
    |(go_at_call 34;refine(uh CA _ i (by omega)).mono ?_;rintro e w2 ⟨rfl,hb2⟩;have HO2:=hide ((uh HO).later hb2);clear HO;have HO:=HO2;clear HO2 hb2)
    |(at_builtin;refine wpList_append_own _ rfl (.tmp 11) (.tmp 20) 51 rfl W0.heap.size 73 i0 _ 3 48 Tryz.underlying51 (uh HI) (uh HZ0) (uh HZ1) (uh HZ2) rfl (by decide) _ i _ rfl (World.ownsRow.alloc (World.ownsRow.alloc (uh HO).own _) _) ⟨_,0,none⟩ 1 1 (efC w2.heap.size i) rfl rfl (by have:=cells_new (w2.alloc (.cells (mkC i).toArray 65)) 73 (efC w2.heap.size i);rw[World.size_alloc] at this;exact this) (efC_one _ _) (by unfold maxLen;omega) (by omega) (by rw[World.size_alloc,World.size_alloc];have:=(uh HO).below.size;omega) ?_;intro v1 w3 hown1 hgrow1 hnil1;have HO1:Hid (DoI W0 w3 v1 (fun k=>if k=i then w2.heap.size else bs k) (i+1)):=(((uh HO).later ((Below.refl _ w2).alloc (Nat.le_refl _) (.cells (mkC i).toArray 65))).later ((Below.refl _ _).alloc (Nat.le_refl _) (.cells (efC w2.heap.size i).toArray 73))).next ((Row.new w2 65 (mkC i)).alloc _) hown1 hgrow1;clear hown1 hgrow1 hnil1)
    |fail)
   go_roundw
   case rel=>exact⟨i+1,_,by go_num,by omega,HO1⟩
   case measure=>simp only[intN];omega
  ·have t1:¬(i:Int)<(manyW N:Int):=by omega
   have hie:i=manyW N:=by omega
   subst hie
   go_wp2_with (first
    |(go_at_call 32;refine(uh CM _ (uh HO).below).mono ?_;rintro e w2 ⟨rfl,hb2⟩;have HO2:=hide ((uh HO).later hb2);clear HO c0 c1;have HO:=HO2;clear HO2 hb2)
    |fail)
   go_ret
   obtain⟨b,cap,e1,e2,e3⟩:=(uh HO).read;cases e1;exact⟨b,sc,rfl,by have:=uh HSZ;omega,e3,uh HBW _ (uh HO).below⟩
structure WbC (W0:World) (v:Value) (N T:List Int):Prop where
 many:∀w',Below W0.heap.size W0 w' →Calls Tryz.prog 32 #[v] w' fun e w2=>e= .returned (.int .i64 (manyW N:Int))∧Below w'.heap.size w' w2
 needs:∀w' (i j:Nat),i<12→j<12→Below W0.heap.size W0 w' →Calls Tryz.prog 39 #[v,.int .i64 (i:Int),.int .i64 (j:Int)] w' fun e w2=>e= .returned (.bool (needW N i j))∧Below w'.heap.size w' w2
 name:∀w' (k:Nat),k<12→Calls Tryz.prog 34 #[.int .i64 (k:Int)] w' fun e w2=>e= .returned (.string ⟨(Mk.nmB k).toArray⟩)∧Below w'.heap.size w' w2
 files:∀w',Below W0.heap.size W0 w' →Calls Tryz.prog 33 #[v] w' fun e w2=>∃a cap b,e= .returned (.slice a (filesW N T).length cap)∧a=some ⟨b,0,none⟩∧RdF w2 b 0 (filesW N T)∧b<w2.heap.size∧Below w'.heap.size w' w2
 does:∀w',Below W0.heap.size W0 w' →Calls Tryz.prog 35 #[v] w' fun e w2=>∃b cap,e= .returned (.slice (some ⟨b,0,none⟩) (manyW N) cap)∧w'.heap.size≤b∧RdE w2 w2.heap.size b 0 (doesW N fun _=>0)∧Below w'.heap.size w' w2
 reached:∀w' g,g<manyW N→Below W0.heap.size W0 w' →Calls Tryz.prog 36 #[v,.int .i64 (g:Int)] w' fun e w2=>∃b R,e= .returned (.slice (some ⟨b,0,none⟩) (manyW N) (manyW N))∧BlR w2 b (manyW N) R∧(∀x,R x=true↔Rch (JW N) g x)∧Below w'.heap.size w' w2
 stale:∀w',Below W0.heap.size W0 w' →Calls Tryz.prog 37 #[v] w' fun e w2=>∃b R,e= .returned (.slice (some ⟨b,0,none⟩) (manyW N) (manyW N))∧BlR w2 b (manyW N) R∧(∀x,x<manyW N→R x=stl (JW N) (timeW T) (manyW N) x)∧Below w'.heap.size w' w2
theorem wbC {N T:List Int} {v:Value} {W:World} (h:WbM W v N T):WbC W v N T where
 many:=fun _ hb=>many_any (h.later hb)
 needs:=fun _ i j hi hj hb=>needs_any (h.later hb) i j hi hj
 name:=fun w' k hk=>name_any k w' hk
 files:=fun w' hb=>(wfiles_any (h.later hb)).mono (by
  rintro e w2 ⟨u,rfl,h1,h2⟩
  obtain⟨a,cap,b,rfl,k1,k2,k3⟩:=own_files h1;have hp:0<(filesW N T).length:=by unfold filesW;simp
  exact⟨a,cap,b,rfl,k1 hp,k3,k2 hp,h2⟩)
 does:=fun w' hb=>wdoes_any (h.later hb)
 reached:=fun w' g hg hb=>reached_any (h.later hb) g hg
 stale:=fun w' hb=>stale_any (h.later hb)
def cntW (l:List Nat) (i:Nat):Nat:=((List.range i).filter (fun x=>decide (x∈l))).length
theorem cnt_yes {l:List Nat} {i:Nat} (h:i∈l):cntW l (i+1)=cntW l i+1:=by
 unfold cntW;rw[List.range_succ,List.filter_append,List.length_append];simp[h]
theorem cnt_no {l:List Nat} {i:Nat} (h:i∉l):cntW l (i+1)=cntW l i:=by
 unfold cntW;rw[List.range_succ,List.filter_append,List.length_append];simp[h]
theorem cntW_le (l:List Nat) (i:Nat):cntW l i≤i:=by
 unfold cntW;have:=List.length_filter_le (fun x=>decide (x∈l)) (List.range i);rw[List.length_range] at this;exact this
theorem cat_wNm (i:Nat):(⟨#[119,32]⟩:ByteArray)++⟨(Mk.nmB i).toArray⟩=⟨(wNm i).toArray⟩:=mk_eq (by unfold wNm;simp)
def putTs (a:Act) (ks:List Nat) (T:Nat→Value):Act:={a with tmps:=ks.foldl (fun t k=>t.setIfInBounds k (T k)) a.tmps}
def CutQ (a:Act) (ks:List Nat) (F:(Nat→Value)→World→Prop) (e:Exit) (a' :Act) (w' :World):Prop:=match e with
 | .normal=>∃T,a' =putTs a ks T∧F T w'
 |_=>False
theorem region_cut {P:Program} {id:Nat} {ops:Array Oper} {b:Bool} {Q:Exit→Act→World→Prop} {a:Act} {w:World} (ks:List Nat) (F:(Nat→Value)→World→Prop)
 (h1:(Code.region id ops b).wp P (CutQ a ks F) a w) (h2:∀T w',F T w' →Q .normal (putTs a ks T) w'):(Code.region id ops b).wp P Q a w:=
 Code.wp_mono (fun e a' w' h=>by
  cases e with
  |normal=>
   obtain⟨T,rfl,hF⟩:=h;exact h2 T w' hF
  |_=>exact h.elim) h1
theorem cut_last {a a' :Act} {ks:List Nat} {F:(Nat→Value)→World→Prop} {w' :World} (h:a' =putTs a ks (fun k=>a'.tmps.getD k undef)) (hF:F (fun k=>a'.tmps.getD k undef) w'):CutQ a ks F .normal a' w' :=⟨_,h,hF⟩
abbrev boxZ:List Value:=[.slice none 0 0,.slice none 0 0,.int .i64 0,.int .i64 0]
structure ResM (W0 w:World) (rb:Nat) (cs:List Pl.Bs) (fl:List Pl.File) (a1:Option Addr) (c1 b1:Nat) (a2:Option Addr) (c2 b2:Nat) (ex ck:Int):Prop where
 below:Below W0.heap.size W0 w
 box:Row w rb 48 [.slice a1 cs.length c1,.slice a2 fl.length c2,.int .i64 ex,.int .i64 ck]
 res:Res cs fl a1 a2 b1 b2 w
section
variable {W0 w w' :World} {rb:Nat} {cs:List Pl.Bs} {fl:List Pl.File} {a1:Option Addr} {c1 b1:Nat} {a2:Option Addr} {c2 b2:Nat} {ex ck:Int}
theorem ResM.later (h:ResM W0 w rb cs fl a1 c1 b1 a2 c2 b2 ex ck) (hb:Below w.heap.size w w'):ResM W0 w' rb cs fl a1 c1 b1 a2 c2 b2 ex ck:=⟨h.below.trans (hb.mono h.below.size),h.box.later hb,h.res.later hb⟩
theorem ResM.new (h:Below W0.heap.size W0 w) (hr:Res cs fl a1 a2 b1 b2 w):ResM W0 (w.alloc (.cells #[.slice a1 cs.length c1,.slice a2 fl.length c2,.int .i64 ex,.int .i64 ck] 48)) w.heap.size cs fl a1 c1 b1 a2 c2 b2 ex ck:=
 ⟨h.alloc h.size _,Row.new w _ _,hr.later ((Below.refl _ w).alloc (Nat.le_refl _) _)⟩
theorem ResM.set (h:Below W0.heap.size W0 w) (hr:Res cs fl a1 a2 b1 b2 w) (hrow:Row w rb 48 boxZ) (hge:W0.heap.size≤rb) (n1:0<cs.length→rb<b1) (n2:0<fl.length→rb<b2):ResM W0 ((((w.setCell ⟨rb,0,none⟩ (.slice a1 cs.length c1)).setCell ⟨rb,1,none⟩ (.slice a2 fl.length c2)).setCell ⟨rb,2,none⟩ (.int .i64 ex)).setCell ⟨rb,3,none⟩ (.int .i64 ck)) rb cs fl a1 c1 b1 a2 c2 b2 ex ck:=by
 have hx:∀(X:World) (k:Nat) (u:Value),Below W0.heap.size W0 X→Below W0.heap.size W0 (X.setCell ⟨rb,k,none⟩ u):=fun X k u hX=>hX.setCell (p:=⟨rb,k,none⟩) hge u
 have hc:∀(X:World) (k:Nat) (u:Value),(∀q,q≠rb→X.heap[q]?=w.heap[q]?)→∀q,q≠rb→(X.setCell ⟨rb,k,none⟩ u).heap[q]?=w.heap[q]?:=fun X k u hX q hq=>(Below.heap_setCell X ⟨rb,k,none⟩ u q hq).trans (hX q hq)
 have hs:∀(X:World) (k:Nat) (u:Value),(X.setCell ⟨rb,k,none⟩ u).heap.size=X.heap.size:=fun X k u=>by simp[World.setCell]
 have hall:=hc _ 3 (.int .i64 ck) (hc _ 2 (.int .i64 ex) (hc _ 1 (.slice a2 fl.length c2) (hc w 0 (.slice a1 cs.length c1) fun _ _=>rfl)))
 have hcell:∀(b o:Nat),b≠rb→((((w.setCell ⟨rb,0,none⟩ (.slice a1 cs.length c1)).setCell ⟨rb,1,none⟩ (.slice a2 fl.length c2)).setCell ⟨rb,2,none⟩ (.int .i64 ex)).setCell ⟨rb,3,none⟩ (.int .i64 ck)).cell? ⟨b,o,none⟩=w.cell? ⟨b,o,none⟩:=fun b o hb=>by
  unfold World.cell?;rw[hall b hb]
 obtain⟨r1,r2,r3,r4,r5,r6⟩:=hr;refine⟨hx _ _ _ (hx _ _ _ (hx _ _ _ (hx _ _ _ h))),(((hrow.set 0 _).set 1 _).set 2 _).set 3 _,r1,r2,fun i hi=> ?_,fun i hi=> ?_,fun q=> ?_,fun q=> ?_⟩
 ·rw[hcell _ _ (by have:=n1 (by omega);omega)];exact r3 i hi
 ·have hne:b2≠rb:=by have:=n2 (by omega);omega
  rw[hcell _ _ hne,hcell _ _ hne,hcell _ _ hne];exact r4 i hi
 ·rw[hs,hs,hs,hs];exact r5 q
 ·rw[hs,hs,hs,hs];exact r6 q
end
end Go.Proofs.YtjelacjggijmfaaGreatDoor
namespace Go.Proofs.YtjelacjggijmfaaGreatDoor
open Go.ChangeShapes Go.WideShapes Go.ChangeAt Go.RowKit Go.Deep
theorem cells_int:Tryz.prog.cellsOf 3=1:=by kernel_rfl
section
variable {H:Type}
theorem bulk_pos (d:DataW H):1≤Rows.uptoBulk d:=by
 cases d with
 |lit x=>cases x<;>simp[Rows.uptoBulk]
 |_=>simp[Rows.uptoBulk]
theorem bulk_len:∀l:List (DataW H),l.length≤Rows.uptoBulkAll l
 |[]=>by simp[Rows.uptoBulkAll]
 |d::r=>by
  have h1:=bulk_pos d;have h2:=bulk_len r;simp only[Rows.uptoBulkAll,List.length_cons];omega
end
section
variable {H:Type} {enc:TypeId×Value→H} {W:World} {base:Nat} {spare:Nat→Bool} {held:Bool}
theorem spot_none {a:Addr} {v:Value} (h:W.cell? a=some v):a.spot=none∧a.block<W.heap.size:=by
 refine⟨World.cell?_spot h,?_⟩;unfold World.cell? at h
 rcases Nat.lt_or_ge a.block W.heap.size with h' |h'
 ·exact h'
 ·rw[Array.getElem?_eq_none h'] at h;cases h
theorem addr_at {a:Addr} (h:a.spot=none) (i:Nat):a.add i=⟨a.block,a.off+i,none⟩:=by
 unfold Addr.add;split
 ·rename_i h0;subst h0;cases a;simp_all
 ·rfl
end
section
variable {H:Type} {enc:TypeId×Value→H} {W:World} {base:Nat} {spare:Nat→Bool} {held:Bool}
end
theorem cells_ints:Tryz.prog.cellsOf 41=1:=by kernel_rfl
theorem cells_web:Tryz.prog.cellsOf 76=2:=by kernel_rfl
theorem i64_of_wf {z:Int} (h:(Lit.int .i64 z).wf=true): -9223372036854775808≤z∧z≤9223372036854775807:=by
 simp[Lit.wf,IntKind.min,IntKind.max,IntKind.signed,IntKind.bits] at h;omega
structure InNs (W:World) (v:Value) (N:List Int):Prop where
 at' :∃a cap b o,v= .slice a N.length cap∧(0<N.length→a=some ⟨b,o,none⟩∧b<W.heap.size∧∀i (h:i<N.length),W.cell? ⟨b,o+i,none⟩=some (.int .i64 N[i]))
 rg:∀x∈N,-9223372036854775808≤x∧x≤9223372036854775807
section
variable {H:Type} {enc:TypeId×Value→H} {W:World} {base:Nat} {spare:Nat→Bool} {held:Bool}
theorem open_ints {fuel:Nat} {v:Value} {x:DataW H×List MemPlace} (h:DataW.trod enc Tryz.prog W base spare held fuel 41 [v]=some x):∃N,InNs W v N∧N.length≤Rows.uptoBulk x.1:=by
 rcases open_slice1 Tryz.underlying41 cells_int h with⟨h0,rfl⟩|⟨a,len,cap,m,n,V,D,Pc,hv,hb,hlc,hm,hmm,rfl,hx⟩
 ·simp only[List.cons.injEq,and_true] at h0
  exact⟨[],⟨⟨none,0,0,0,h0,fun h=>by simp at h⟩,by simp⟩,Nat.zero_le _⟩
 ·simp only[List.cons.injEq,and_true] at hv
  have hlm:len≤m:=by rw[hmm];split<;>omega
  have each:∀i,i<len→∃z:Int,W.cell? (a.add i)=some (.int .i64 z)∧ -9223372036854775808≤z∧z≤9223372036854775807:=fun i hi=>by
   obtain⟨h1,h2⟩:=hx i (by omega);obtain⟨z,e,-,hz⟩:=DataW.trod_int Tryz.underlying3 h2;simp only[List.cons.injEq,and_true] at e;rw[e] at h1;exact⟨z,h1,i64_of_wf hz⟩
  obtain⟨F,hF⟩:=choose_lt each;have hlen:((List.range len).map F).length=len:=by simp
  refine⟨(List.range len).map F,⟨⟨some a,cap,a.block,a.off,by rw[hlen,hv],fun h0=> ?_⟩,fun x hx=> ?_⟩,?_⟩
  ·rw[hlen] at h0
   obtain⟨hs,hbl⟩:=spot_none (hF 0 h0).1;have hs' :a.spot=none:=by simpa [Addr.add] using hs
   have hbl' :a.block<W.heap.size:=by simpa [Addr.add] using hbl
   refine⟨by cases a;simp_all,hbl',fun i hi=> ?_⟩;have hi' :i<len:=by omega
   have c:=(hF i hi').1;rw[addr_at hs'] at c;simp only[List.getElem_map,List.getElem_range];exact c
  ·obtain⟨i,hi,rfl⟩:=List.mem_map.1 hx
   exact(hF i (List.mem_range.1 hi)).2
  ·rw[hlen]
   simp only[Rows.uptoBulk];have:=bulk_len ((List.range len).map D);rw[List.length_map,List.length_range] at this;omega
theorem open_web {fuel:Nat} {cs:List Value} {x:DataW H×List MemPlace} (h:DataW.trod enc Tryz.prog W base spare held fuel 76 cs=some x) (hk:Rows.uptoBulk x.1≤1048576):∃N T v0 v1,cs=[v0,v1]∧WbM W (.agg #[v0,v1]) N T:=by
 obtain⟨xs,k,-,hxy,hl,hxl,hf⟩:=DataW.trod_struct Tryz.underlying76 h;rw[cells_web] at hl;have hxl:xs.length=2:=hxl
 match cs,hl with
 |[v0,v1],_=>
  match xs,hxl with
  |[y0,y1],_=>
   have g0:=hf 0 _ rfl;have g1:=hf 1 _ rfl;simp[cells_ints] at g0 g1;obtain⟨N,hN,n1⟩:=open_ints g0;obtain⟨T,hT,n2⟩:=open_ints g1;rw[hxy] at hk;simp only[List.map_cons,List.map_nil,Rows.uptoBulk,Rows.uptoBulkAll] at hk;obtain⟨an,cn,bn,on,e1,k1⟩:=hN.at';obtain⟨at',ct,bt,ot,e2,k2⟩:=hT.at'
   exact⟨N,T,v0,v1,rfl,⟨an,cn,bn,on,at',ct,bt,ot,by rw[e1,e2],k1,k2⟩,hN.rg,hT.rg,by omega,by omega⟩
end
end Go.Proofs.YtjelacjggijmfaaGreatDoor
namespace Go.Proofs.YtjelacjggijmfaaGreatDoor
open Go.ChangeShapes Go.WideShapes Go.ChangeAt Go.RowKit
theorem own:ownKnob Tryz.prog.godebug=none:=by kernel_rfl
theorem Tryz.laidOut:laidOutB Tryz.prog=true:=by kernel_rfl
theorem glob_shaped (W:World) (h:W.ShapedOpen Tryz.prog):Glob W:=
 Go.Proofs.cell_of_shapedOpen_int (zero:= #[.int .i64 0]) (t:=3) h (of_decide_eq_true (by kernel_rfl)) (by kernel_rfl) rfl (by kernel_rfl) (by kernel_rfl) Tryz.underlying3
def laidHeap (h:Array Obj):Array Obj:=
 (h.modify 1 fun
  | .cells _ t frozen=> .cells ((Go.Pinned.utf8FirstZ.map fun(n:Nat)=>Value.int .u8 (n:Int)).toArray) t frozen
  |o=>o).modify 2 fun
  | .cells _ t frozen=> .cells (([128,191,160,191,128,159,144,191,128,143,0,0,0,0,0,0,0,0,0,0,0,0,0,0,0,0,0,0,0,0,0,0].map fun(n:Int)=>Value.int .u8 n).toArray) t frozen
  |o=>o
end Go.Proofs.YtjelacjggijmfaaGreatDoor
