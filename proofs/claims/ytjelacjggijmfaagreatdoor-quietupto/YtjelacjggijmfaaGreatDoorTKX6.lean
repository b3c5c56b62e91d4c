/-
  The laws' own on webs: which nodes are stale.
-/
import Derived.Test.YtjelacjggijmfaaGreatDoorTGH3
set_option maxHeartbeats 4000000
set_option maxRecDepth 20000
namespace Go.Proofs.YtjelacjggijmfaaGreatDoor
open Go.RowKit
theorem BlO.drewN {W0 w:World} {b m:Nat} {R:Nat→Bool} (h:BlO W0 w b m R) (k:Nat):BlO W0 (w.drewN k) b m R:=⟨⟨h.below.os,h.below.tape,h.below.output,h.below.size,h.below.block⟩,h.row,h.ge⟩
theorem BlO.drew {W0 w:World} {b m:Nat} {R:Nat→Bool} (h:BlO W0 w b m R):BlO W0 w.drew b m R:=⟨h.below.drew,h.row,h.ge⟩
def upN:Value→Nat
 | .int _ z=>(z+1).toNat
 |_=>0
theorem stale_any {N T:List Int} {v:Value} {W:World} (h:WbM W v N T):Calls Tryz.prog 37 #[v] W fun e w' =>∃b R,e= .returned (.slice (some ⟨b,0,none⟩) (manyW N) (manyW N))∧BlR w' b (manyW N) R∧(∀x,x<manyW N→R x=stl (JW N) (timeW T) (manyW N) x)∧Below W.heap.size W w' :=by
 have h' :=h;obtain⟨⟨an,cn,bn,on,at',ct,bt,ot,rfl,-,-⟩,-,-,-,-⟩:=h';have hb0:Below W.heap.size W (W.alloc (.cells #[.slice an N.length cn,.slice at' T.length ct] 76)):=(Below.refl _ _).alloc (Nat.le_refl _) _;have hR:=Row.new W 76 [.slice an N.length cn,.slice at' T.length ct]
 have hs0:(W.alloc (.cells #[.slice an N.length cn,.slice at' T.length ct] 76)).heap.size=W.heap.size+1:=World.size_alloc _ _;generalize hW0:W.alloc (.cells #[.slice an N.length cn,.slice at' T.length ct] 76)=W0 at*;have hbw:∀w',Below W0.heap.size W0 w' →Below W.heap.size W w' :=fun w' hb=>hb0.trans (hb.mono (by omega))
 have CM:Hid (∀w',Below W0.heap.size W0 w' →Calls Tryz.prog 32 #[.agg #[.slice an N.length cn,.slice at' T.length ct]] w' fun e w2=>e= .returned (.int .i64 (manyW N:Int))∧Below w'.heap.size w' w2):=fun w' hb=>many_any (h.later (hbw w' hb))
 have CN:Hid (∀w' (i j:Nat),i<12→j<12→Below W0.heap.size W0 w' →Calls Tryz.prog 39 #[.agg #[.slice an N.length cn,.slice at' T.length ct],.int .i64 (i:Int),.int .i64 (j:Int)] w' fun e w2=>e= .returned (.bool (needW N i j))∧Below w'.heap.size w' w2):=fun w' i j hi hj hb=>needs_any (h.later (hbw w' hb)) i j hi hj
 have CT:Hid (∀w' (i:Nat),i<12→Below W0.heap.size W0 w' →Calls Tryz.prog 63 #[.agg #[.slice an N.length cn,.slice at' T.length ct],.int .i64 (i:Int)] w' fun e w2=>e= .returned (.int .i64 (timeW T i))∧Below w'.heap.size w' w2):=fun w' i hi hb=>time_any (h.later (hbw w' hb)) i hi
 have hm:=many_le N;have HC:Hid (∀w',Below W0.heap.size W0 w' →w'.cell? ⟨W.heap.size,0,none⟩=some (.slice an N.length cn)∧w'.cell? ⟨W.heap.size,1,none⟩=some (.slice at' T.length ct)):=fun w' hb=>⟨(hR.later hb).cell 0 (by simp),(hR.later hb).cell 1 (by simp)⟩
 have HBW:=hide hbw;have H0:=hide (Below.refl W0.heap.size W0);obtain⟨c0,c1⟩:=uh HC W0 (uh H0)
 have hmb:∀w,(Instr.makeSlice 82 (.int .i64 (manyW N:Int)) (.int .i64 (manyW N:Int))).run Tryz.prog w= .ok (.slice (some ⟨w.heap.size,0,none⟩) (manyW N) (manyW N)) (w.alloc (.cells (madeCells #[.bool false] (manyW N)) 4)):=
  run_make_row' (P:=Tryz.prog) 82 4 (.bool false) 1 Tryz.underlying82 Tryz.infoBl rfl .i64 .i64 (manyW N) (by omega) (by omega)
 have t0:wrap64 ((manyW N:Int)-1)=(manyW N:Int)-1:=by unfold wrap64;omega
 clear hR hb0 hs0 hbw h
 go_enter Tryz.func37,Tryz.ntmps37
 go_wp2_with (first
  |(go_at_call 32;first|(refine (uh CM _ (uh H0)).mono ?_;rintro e w1 ⟨rfl,hb1⟩;have HB1:=hide hb1;have HO:Hid (BlO W0 (w1.alloc (.cells (madeCells #[.bool false] (manyW N)) 4)) w1.heap.size (manyW N) (fun _=>false)):=⟨hb1.alloc hb1.size _,BlR.made w1 (manyW N),hb1.size⟩;clear hb1 H0 c0 c1;obtain⟨c0,c1⟩:=uh HC _ (uh HO).below)|(refine (uh CM _ (uh HO).below).mono ?_;rintro e w2 ⟨rfl,hb2⟩;have HO2:=hide ((uh HO).later hb2);clear HO c0 c1;have HO:=HO2;clear HO2 hb2))
  |fail)
 generalize w1.heap.size=B at*;clear hW0 HB1 hmb
 go_loopw [4] (fun iv wr=>∃R:Nat→Bool,Hid (BlO W0 wr B (manyW N) R)∧((∃i:Nat,iv= .int .i64 i∧i<manyW N∧Hid (∀x,i<x→x<manyW N→R x=stl (JW N) (timeW T) (manyW N) x))∨(iv= .int .i64 (-1)∧Hid (∀x,x<manyW N→R x=stl (JW N) (timeW T) (manyW N) x)))) (fun iv _=>upN iv)
 case atStart=>exact⟨_,HO,.inl ⟨manyW N-1,by rw[show ((manyW N-1:Nat):Int)=(manyW N:Int)-1 by omega],by omega,fun x h1 h2=>by omega⟩⟩
 case round=>
  clear HO;obtain⟨R,HO,hcase⟩:=hrel;obtain⟨c0,c1⟩:=uh HC _ (uh HO).below
  rcases hcase with⟨i,rfl,hi,HS⟩|⟨rfl,HS⟩
  ·have t1:(i:Int)<(manyW N:Int):=by omega
   have HS2:=hide (SlI.start (uh HS));clear HS
   go_wp2_with (first
    |(go_at_call 63;refine(uh CT _ i (by omega) (uh HO).below).mono ?_;rintro e w3 ⟨rfl,hb3⟩;have HO3:=hide ((uh HO).later hb3);clear HO c0 c1;have HO:=HO3;clear HO3 hb3;have d1:=(uh HO).row.cell i hi;have d2:=(uh HO).row.frozen i)
    |fail)
   have HO2:=hide ((uh HO).set i (decide (timeW T i<0)));clear HO d1 d2
   go_loopw [5] (fun jv wr=>∃(j:Nat) (R:Nat→Bool),jv= .int .i64 j∧i<j∧j≤manyW N∧Hid (SlI N (timeW T) i j R)∧Hid (BlO W0 wr B (manyW N) R)) (fun jv _=>manyW N-intN jv)
   case atStart=>exact⟨i+1,_,by go_num,by omega,by omega,HS2,HO2⟩
   case round=>
    clear HS2 HO2;obtain⟨j,R,rfl,hij,hj,HS,HO⟩:=hrel;obtain⟨c0,c1⟩:=uh HC _ (uh HO).below
    by_cases hk2:j<manyW N
    ·have t2:(j:Int)<(manyW N:Int):=by omega
     have hrs:=(uh HS).above j hij hk2;cases hn:needW N i j with
     |false=>
      have HS2:=hide ((uh HS).no (by rw[hn];rfl));clear HS hrs;have hr:True:=trivial
      go_wp2_with (first
       |(go_at_call 32;refine(uh CM _ (uh HO).below).mono ?_;rintro e w2 ⟨rfl,hb2⟩;have HO2:=hide ((uh HO).later hb2);clear HO c0 c1;have HO:=HO2;clear HO2 hb2;obtain⟨c0,c1⟩:=uh HC _ (uh HO).below)
       |(go_at_call 39;refine(uh CN _ i j (by omega) (by omega) (uh HO).below).mono ?_;rintro e w3 ⟨rfl,hb3⟩;rw[hn];have HO3:=hide ((uh HO).later hb3);clear HO c0 c1;have HO:=HO3;clear HO3 hb3;obtain⟨c0,c1⟩:=uh HC _ (uh HO).below;have d0:=(uh HO).row.cell j hk2;try rw[hr] at d0;have d1:=(uh HO).row.cell i hi;have d2:=(uh HO).row.frozen i)
       |fail)
      go_quiet (fail)
      go_wp2_with fail
      go_roundw
      case rel=>exact⟨j+1,_,by go_num,by omega,by omega,HS2,(uh HO).drewN _⟩
      case measure=>simp only[intN];omega
     |true=>
      cases hr:R j with
      |true=>
       have HS2:=hide ((uh HS).yes hn (by rw[←hrs,hr];rfl));clear HS hrs
       go_wp2_with (first
        |(go_at_call 32;refine(uh CM _ (uh HO).below).mono ?_;rintro e w2 ⟨rfl,hb2⟩;have HO2:=hide ((uh HO).later hb2);clear HO c0 c1;have HO:=HO2;clear HO2 hb2;obtain⟨c0,c1⟩:=uh HC _ (uh HO).below)
        |(go_at_call 39;refine(uh CN _ i j (by omega) (by omega) (uh HO).below).mono ?_;rintro e w3 ⟨rfl,hb3⟩;rw[hn];have HO3:=hide ((uh HO).later hb3);clear HO c0 c1;have HO:=HO3;clear HO3 hb3;obtain⟨c0,c1⟩:=uh HC _ (uh HO).below;have d0:=(uh HO).row.cell j hk2;try rw[hr] at d0;have d1:=(uh HO).row.cell i hi;have d2:=(uh HO).row.frozen i)
        |fail)
       go_quiet (fail)
       go_wp2_with fail
       go_roundw
       case rel=>exact⟨j+1,_,by go_num,by omega,by omega,HS2,((uh HO).drewN _).set i true⟩
       case measure=>simp only[intN];omega
      |false=>
       rw[hr] at hrs
       by_cases hlt:timeW T i<timeW T j
       ·have HS2:=hide ((uh HS).yes hn (by rw[←hrs,decide_eq_true hlt];rfl))
        clear HS hrs
        go_wp2_with (first
         |(go_at_call 32;refine(uh CM _ (uh HO).below).mono ?_;rintro e w2 ⟨rfl,hb2⟩;have HO2:=hide ((uh HO).later hb2);clear HO c0 c1;have HO:=HO2;clear HO2 hb2;obtain⟨c0,c1⟩:=uh HC _ (uh HO).below)
         |(go_at_call 39;refine(uh CN _ i j (by omega) (by omega) (uh HO).below).mono ?_;rintro e w3 ⟨rfl,hb3⟩;rw[hn];have HO3:=hide ((uh HO).later hb3);clear HO c0 c1;have HO:=HO3;clear HO3 hb3;obtain⟨c0,c1⟩:=uh HC _ (uh HO).below;have d0:=(uh HO).row.cell j hk2;try rw[hr] at d0;have d1:=(uh HO).row.cell i hi;have d2:=(uh HO).row.frozen i)
         |fail)
        go_region_with (first
         |(go_at_call_of 63 j;refine(uh CT _ j (by omega) ?_).mono ?_;exact(uh HO).below.drew;rintro e w4 ⟨rfl,hb4⟩;have HO4:=hide ((uh HO).drew.later hb4);obtain⟨e0,e1⟩:=uh HC _ (uh HO4).below;clear hb4)
         |(go_at_call_of 63 i;refine(uh CT _ i (by omega) (uh HO4).below).mono ?_;rintro e w5 ⟨rfl,hb5⟩;have HO5:=hide ((uh HO4).later hb5);have g1:=(uh HO5).row.cell i hi;have g2:=(uh HO5).row.frozen i;clear hb5))
        all_goals go_wp2_with fail
        all_goals go_roundw
        all_goals first
         |exact⟨j+1,_,by go_num,by omega,by omega,HS2,(uh HO5).set i true⟩
         |(simp only[intN];omega)
       ·have HS2:=hide ((uh HS).no (by rw[←hrs,hn,decide_eq_false hlt];rfl))
        clear HS hrs
        go_wp2_with (first
         |(go_at_call 32;refine(uh CM _ (uh HO).below).mono ?_;rintro e w2 ⟨rfl,hb2⟩;have HO2:=hide ((uh HO).later hb2);clear HO c0 c1;have HO:=HO2;clear HO2 hb2;obtain⟨c0,c1⟩:=uh HC _ (uh HO).below)
         |(go_at_call 39;refine(uh CN _ i j (by omega) (by omega) (uh HO).below).mono ?_;rintro e w3 ⟨rfl,hb3⟩;rw[hn];have HO3:=hide ((uh HO).later hb3);clear HO c0 c1;have HO:=HO3;clear HO3 hb3;obtain⟨c0,c1⟩:=uh HC _ (uh HO).below;have d0:=(uh HO).row.cell j hk2;try rw[hr] at d0;have d1:=(uh HO).row.cell i hi;have d2:=(uh HO).row.frozen i)
         |fail)
        go_region_with (first
         |(go_at_call_of 63 j;refine(uh CT _ j (by omega) ?_).mono ?_;exact(uh HO).below.drew;rintro e w4 ⟨rfl,hb4⟩;have HO4:=hide ((uh HO).drew.later hb4);obtain⟨e0,e1⟩:=uh HC _ (uh HO4).below;clear hb4)
         |(go_at_call_of 63 i;refine(uh CT _ i (by omega) (uh HO4).below).mono ?_;rintro e w5 ⟨rfl,hb5⟩;have HO5:=hide ((uh HO4).later hb5);have g1:=(uh HO5).row.cell i hi;have g2:=(uh HO5).row.frozen i;clear hb5))
        all_goals go_wp2_with fail
        all_goals go_roundw
        all_goals first
         |exact⟨j+1,_,by go_num,by omega,by omega,HS2,HO5⟩
         |(simp only[intN];omega)
    ·have t2:¬(j:Int)<(manyW N:Int):=by omega
     have hje:j=manyW N:=by omega
     have HS2:Hid (∀x,i≤x→x<manyW N→R x=stl (JW N) (timeW T) (manyW N) x):=hide (SlI.done (hje▸uh HS) hi);clear HS hje
     go_wp2_with (first
      |(go_at_call 32;refine(uh CM _ (uh HO).below).mono ?_;rintro e w2 ⟨rfl,hb2⟩;have HO2:=hide ((uh HO).later hb2);clear HO c0 c1;have HO:=HO2;clear HO2 hb2)
      |fail)
     go_roundw
     case rel=>
      cases i with
      |zero=>exact⟨R,HO,.inr ⟨by go_num,fun x hx=>uh HS2 x (Nat.zero_le _) hx⟩⟩
      |succ i=>exact⟨R,HO,.inl ⟨i,by go_num,by omega,fun x h1 h2=>uh HS2 x h1 h2⟩⟩
     case measure=>simp only[upN];omega
  ·go_wp2_with fail
   go_ret
   exact⟨B,R,rfl,(uh HO).row,uh HS,uh HBW _ (uh HO).below⟩
end Go.Proofs.YtjelacjggijmfaaGreatDoor
