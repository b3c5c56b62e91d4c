/-
  The book: what is phony.
-/
import Derived.Test.YtjelacjggijmfaaGreatDoorTWS3
import Derived.Lib.AppendZerosOnto
import Derived.Lib.SliceRun
set_option maxHeartbeats 2000000
set_option maxRecDepth 100000
namespace Go.Proofs.YtjelacjggijmfaaGreatDoor
open Go.RowKit Go.MapKept Go.ChangeMaps Go.Maps
def idxV (r:Option Nat):Value:=match r with
 |some i=> .int .i64 (i:Int)
 |none=> .int .i64 (-1)
structure IxI (W:World) (f:Pl.Bs→Bool) (xs:List Pl.Bs) (i:Nat) (wr:World):Prop where
 below:Below W.heap.size W wr
 no:∀x∈xs.take i,f x=false
theorem indexFunc_any (xs:List Pl.Bs) (a:Option Addr) (cap b o g:Nat) (caps:Array Value) (f:Pl.Bs→Bool) (W:World) (hent:∀args w,(callFunc g args).run Tryz.prog w= .ok (.enter g args) w)
 (hcall:∀w,Below W.heap.size W w→∀x∈xs,Calls Tryz.prog g (#[.string ⟨x.toArray⟩]++caps) w fun e w' =>e= .returned (.bool (f x))∧Below w.heap.size w w') (ha:0<xs.length→a=some ⟨b,o,none⟩∧b<W.heap.size∧RdN W b o xs) (hn:xs.length≤1073741824):
 Calls Tryz.prog 264 #[.slice a xs.length cap,.func (.func g) #[] caps] W fun e W' =>e= .returned (idxV (xs.findIdx? f))∧Below W.heap.size W W' :=by
 have HA:=hide ha;have HC:=hide hcall;have HX0:Hid (IxI W f xs 0 W):=⟨Below.refl _ _,by simp⟩;clear ha hcall
 go_enter Tryz.func264,Tryz.ntmps264
 go_wp2_with fail
 go_loopw [8] (fun iv wr=>∃i:Nat,iv= .int .i64 i∧i≤xs.length∧Hid (IxI W f xs i wr)) (fun iv _=>xs.length-intN iv)
 case atStart=>exact⟨0,rfl,by omega,HX0⟩
 case round=>
  clear HX0;obtain⟨i,rfl,hi2,HX⟩:=hrel
  by_cases hi:i<xs.length
  ·have t1:(i:Int)<xs.length:=by omega
   have t0:(0:Int)≤(i:Int):=by omega
   obtain⟨rfl,hb,hr⟩:=uh HA (by omega);have cn:=hr.below (uh HX).below hb i xs[i] (List.getElem?_eq_getElem hi);have CF:=hide (uh HC wr (uh HX).below xs[i] (List.getElem_mem hi));have hsz:=(uh HX).below.size
   have HF1:Hid (f xs[i]=true→xs.findIdx? f=some i):=fun e=>by
    rw[List.findIdx?_eq_some_iff_getElem];refine⟨hi,e,fun j hj=> ?_⟩;have:=(uh HX).no xs[j] (List.mem_iff_getElem.2 ⟨j,by rw[List.length_take];omega,by rw[List.getElem_take]⟩);rw[this];decide
   have HF2:Hid (f xs[i]=false→∀x∈xs.take (i+1),f x=false):=fun e x hx=>by
    rw[List.take_succ_eq_append_getElem hi] at hx
    rcases List.mem_append.1 hx with h1|h1
    ·exact(uh HX).no x h1
    ·rw[List.mem_singleton] at h1;subst h1;exact e
   clear hr;unfold strV at cn;generalize xs[i]=x at*;cases hfx:f x with
   |true=>
    have HI:=hide (uh HF1 hfx);rw[hfx] at CF;clear HF1 HF2 hfx
    go_wp2_with (first
     |(go_at_fn g;refine(uh CF).mono ?_;rintro e w1 ⟨rfl,hb1⟩;have HB1:=hide ((uh HX).below.trans (hb1.mono hsz));clear hb1)
     |fail)
    go_ret
    exact⟨by rw[uh HI];rfl,uh HB1⟩
   |false=>
    have HI:=hide (uh HF2 hfx);rw[hfx] at CF;clear HF1 HF2 hfx
    go_wp2_with (first
     |(go_at_fn g;refine(uh CF).mono ?_;rintro e w1 ⟨rfl,hb1⟩;have HX1:Hid (IxI W f xs (i+1) w1):=⟨(uh HX).below.trans (hb1.mono hsz),uh HI⟩;clear hb1)
     |fail)
    go_roundw
    case rel=>exact⟨i+1,by go_num,by omega,HX1⟩
    case measure=>simp only[intN];omega
  ·have hie:i=xs.length:=by omega
   subst hie;have t1:¬(xs.length:Int)<xs.length:=by omega
   have HN:Hid (xs.findIdx? f=none):=by
    show _=_;rw[List.findIdx?_eq_none_iff];exact fun x hx=>(uh HX).no x (by rw[List.take_length];exact hx)
   go_wp2_with fail
   go_ret
   exact⟨by rw[uh HN];rfl,(uh HX).below⟩
theorem any_idx (xs:List Pl.Bs) (f:Pl.Bs→Bool):xs.any f=(xs.findIdx? f).isSome:=by
 cases h:xs.findIdx? f with
 |none=>
  rw[List.findIdx?_eq_none_iff] at h;rw[Option.isSome_none,List.any_eq_false];exact fun x hx=>by rw[h x hx];decide
 |some i=>
  rw[List.findIdx?_eq_some_iff_getElem] at h;obtain⟨h1,h2,-⟩:=h;rw[Option.isSome_some,List.any_eq_true];exact⟨_,List.getElem_mem h1,h2⟩
theorem containsFunc_any (xs:List Pl.Bs) (a:Option Addr) (cap b o g:Nat) (caps:Array Value) (f:Pl.Bs→Bool) (W:World) (hent:∀args w,(callFunc g args).run Tryz.prog w= .ok (.enter g args) w)
 (hcall:∀w,Below W.heap.size W w→∀x∈xs,Calls Tryz.prog g (#[.string ⟨x.toArray⟩]++caps) w fun e w' =>e= .returned (.bool (f x))∧Below w.heap.size w w') (ha:0<xs.length→a=some ⟨b,o,none⟩∧b<W.heap.size∧RdN W b o xs) (hn:xs.length≤1073741824):
 Calls Tryz.prog 221 #[.slice a xs.length cap,.func (.func g) #[] caps] W fun e W' =>e= .returned (.bool (xs.any f))∧Below W.heap.size W W' :=by
 have C1:=indexFunc_any xs a cap b o g caps f W hent hcall ha hn;rw[any_idx];cases h:xs.findIdx? f with
 |none=>
  rw[h] at C1;unfold idxV at C1;have C2:=hide C1;clear C1
  go_enter Tryz.func221,Tryz.ntmps221
  go_wp2_with (first
   |(go_at_call 264;refine(uh C2).mono ?_;rintro e w1 ⟨rfl,hb1⟩;have HB1:=hide hb1;clear hb1)
   |fail)
  go_ret
  exact⟨rfl,uh HB1⟩
 |some i=>
  rw[h] at C1;unfold idxV at C1;have C2:=hide C1;have t0:(0:Int)≤(i:Int):=by omega
  clear C1
  go_enter Tryz.func221,Tryz.ntmps221
  go_wp2_with (first
   |(go_at_call 264;refine(uh C2).mono ?_;rintro e w1 ⟨rfl,hb1⟩;have HB1:=hide hb1;clear hb1)
   |fail)
  go_ret
  exact⟨by simp,uh HB1⟩
def sidesB (targets needs:List Pl.Bs):Bool:=
 if targets.length=0∨targets.any placesB=true∨needs.any placesB=true then false
 else if targets.any placeB=true then decide (targets.length=1) else !(needs.any placeB)
def WdR (W:World) (xs:List Pl.Bs) (a:Option Addr):Prop:=∃b o,0<xs.length→a=some ⟨b,o,none⟩∧b<W.heap.size∧RdN W b o xs
theorem WdR.later {W W' :World} {xs:List Pl.Bs} {a:Option Addr} (h:WdR W xs a) (hb:Below W.heap.size W W'):WdR W' xs a:=by
 obtain⟨b,o,h1⟩:=h;exact⟨b,o,fun e=>⟨(h1 e).1,Nat.lt_of_lt_of_le (h1 e).2.1 hb.size,(h1 e).2.2.below hb (h1 e).2.1⟩⟩
theorem anyPlaces (xs:List Pl.Bs) (a:Option Addr) (cap:Nat) (W:World) (h:WdR W xs a) (hn:xs.length≤1073741824):
 Calls Tryz.prog 221 #[.slice a xs.length cap,.func (.func 226) #[] #[]] W fun e W' =>e= .returned (.bool (xs.any placesB))∧Below W.heap.size W W' :=by
 obtain⟨b,o,h1⟩:=h;exact containsFunc_any xs a cap b o _ _ placesB W (enters_of Tryz.func226 (by kernel_rfl) rfl) (fun w _ x _=>(hasPlaces_any x w).mono (fun e w' h=>⟨h.1,h.2▸Below.refl _ _⟩)) h1 hn
theorem anyPlace (xs:List Pl.Bs) (a:Option Addr) (cap:Nat) (W:World) (h:WdR W xs a) (hg:Glob W) (hn:xs.length≤1073741824) (hl:∀x∈xs,x.length≤4294967200):
 Calls Tryz.prog 221 #[.slice a xs.length cap,.func (.func 227) #[] #[]] W fun e W' =>e= .returned (.bool (xs.any placeB))∧Below W.heap.size W W' :=by
 obtain⟨b,o,h1⟩:=h;exact containsFunc_any xs a cap b o _ _ placeB W (enters_of Tryz.func227 (by kernel_rfl) rfl) (fun w hw x hx=>(hasPlace_any x w (hg.later hw) (hl x hx)).mono (fun e w' h=>⟨h.1,h.2▸Below.refl _ _⟩)) h1 hn
theorem mayBeSides_any (ts ns:List Pl.Bs) (a c:Option Addr) (ca cc:Nat) (W:World) (ht:WdR W ts a) (hs:WdR W ns c) (hg:Glob W) (hn:ts.length≤1073741824) (hm:ns.length≤1073741824) (hl:∀x∈ts,x.length≤4294967200) (hk:∀x∈ns,x.length≤4294967200):
 Calls Tryz.prog 183 #[.slice a ts.length ca,.slice c ns.length cc] W fun e W' =>e= .returned (.bool (sidesB ts ns))∧Below W.heap.size W W' :=by
 have HS:Hid (sidesB ts ns=if ts.length=0∨ts.any placesB=true∨ns.any placesB=true then false
 else if ts.any placeB=true then decide (ts.length=1) else !(ns.any placeB)):=rfl
 have C1:=hide (anyPlaces ts a ca W ht hn);have C2:=hide (fun W' (hb:Below W.heap.size W W')=>anyPlaces ns c cc W' (hs.later hb) hm);have C3:=hide (fun W' (hb:Below W.heap.size W W')=>anyPlace ts a ca W' (ht.later hb) (hg.later hb) hn hl);have C4:=hide (fun W' (hb:Below W.heap.size W W')=>anyPlace ns c cc W' (hs.later hb) (hg.later hb) hm hk)
 have HB0:=hide (Below.refl W.heap.size W);clear ht hs hg hl hk;generalize sidesB ts ns=S at*;generalize ts.any placesB=p1 at*;generalize ns.any placesB=p2 at*;generalize ts.any placeB=p3 at*;generalize ns.any placeB=p4 at*;generalize ts.length=n at*
 by_cases h0:n=0
 ·have HE:Hid (S=false):=by show S=_;rw[uh HS,if_pos (.inl h0)]
  have t0:(((n:Nat):Int)==0)=true:=by rw[h0];rfl
  clear HS
  go_enter Tryz.func183,Tryz.ntmps183
  go_wp2_with fail
  go_ret
  exact⟨by rw[uh HE];rfl,uh HB0⟩
 have t0:(((n:Nat):Int)==0)=false:=by rw[beq_eq_false_iff_ne];omega
 cases p1 with
 |true=>
  have HE:Hid (S=false):=by show S=_;rw[uh HS,if_pos (.inr (.inl rfl))]
  clear HS
  go_enter Tryz.func183,Tryz.ntmps183
  go_wp2_with (first
   |(go_at_call 221;refine(uh C1).mono ?_;clear C1;rintro e w1 ⟨rfl,hb1⟩;have HB1:=hide hb1;clear hb1)
   |fail)
  go_ret
  exact⟨by rw[uh HE];rfl,uh HB1⟩
 |false=>
  cases p2 with
  |true=>
   have HE:Hid (S=false):=by show S=_;rw[uh HS,if_pos (.inr (.inr rfl))]
   clear HS
   go_enter Tryz.func183,Tryz.ntmps183
   go_wp2_with (first
    |(go_at_call 221;refine(uh C1).mono ?_;clear C1;rintro e w1 ⟨rfl,hb1⟩;have HB1:=hide hb1;clear hb1)
    |(go_at_call 221;refine(uh C2 _ (uh HB1)).mono ?_;clear C2;rintro e w2 ⟨rfl,hb2⟩;have HB2:=hide ((uh HB1).trans (hb2.mono (uh HB1).size));clear hb2)
    |fail)
   go_ret
   exact⟨by rw[uh HE];rfl,uh HB2⟩
  |false=>
   cases p3 with
   |true=>
    have HE:Hid (S=decide (n=1)):=by show S=_;rw[uh HS,if_neg (by simp[h0]),if_pos rfl]
    clear HS;have hd:decide ((n:Int)=1)=decide (n=1):=by rw[decide_eq_decide];omega
    have HD:=hide hd;clear hd
    go_enter Tryz.func183,Tryz.ntmps183
    go_wp2_with (first
     |(go_at_call 221;refine(uh C1).mono ?_;clear C1;rintro e w1 ⟨rfl,hb1⟩;have HB1:=hide hb1;clear hb1)
     |(go_at_call 221;refine(uh C2 _ (uh HB1)).mono ?_;clear C2;rintro e w2 ⟨rfl,hb2⟩;have HB2:=hide ((uh HB1).trans (hb2.mono (uh HB1).size));clear hb2)
     |(go_at_call 221;refine(uh C3 _ (uh HB2)).mono ?_;clear C3;rintro e w3 ⟨rfl,hb3⟩;have HB3:=hide ((uh HB2).trans (hb3.mono (uh HB2).size));clear hb3)
     |fail)
    go_ret
    exact⟨by rw[uh HE,←uh HD];rfl,uh HB3⟩
   |false=>
    have HE:Hid (S= !p4):=by show S=_;rw[uh HS,if_neg (by simp[h0]),if_neg (by decide)]
    clear HS
    go_enter Tryz.func183,Tryz.ntmps183
    go_wp2_with (first
     |(go_at_call 221;refine(uh C1).mono ?_;clear C1;rintro e w1 ⟨rfl,hb1⟩;have HB1:=hide hb1;clear hb1)
     |(go_at_call 221;refine(uh C2 _ (uh HB1)).mono ?_;clear C2;rintro e w2 ⟨rfl,hb2⟩;have HB2:=hide ((uh HB1).trans (hb2.mono (uh HB1).size));clear hb2)
     |(go_at_call 221;refine(uh C3 _ (uh HB2)).mono ?_;clear C3;rintro e w3 ⟨rfl,hb3⟩;have HB3:=hide ((uh HB2).trans (hb3.mono (uh HB2).size));clear hb3)
     |(go_at_call 221;refine(uh C4 _ (uh HB3)).mono ?_;clear C4;rintro e w4 ⟨rfl,hb4⟩;have HB4:=hide ((uh HB3).trans (hb4.mono (uh HB3).size));clear hb4)
     |fail)
    go_ret
    exact⟨by rw[uh HE];first|rfl|simp,uh HB4⟩
theorem wpList_append_run {P:Program} (w:World) {ops:Array Oper} {rest:List Oper} {o:Oper} {a:Act} {Q:Exit→Act→World→Prop} (hg:o.guard=none) (s x:Operand) (t u:TypeId) (hop:o.op=Op.call {callee:=Callee.builtin Builtin.append,args:= #[s,x],argTypes:= #[t,u]}) (v1 v2:Value) (hs:a.eval s=v1) (hx:a.eval x=v2) (v' :Value) (w' :World) (hrun:(Builtin.append_ #[t,u] o.type #[v1,v2]).run P w= .ok v' w') (hK:wpList P ops Q rest (a.put o.dst v') w'):wpList P ops Q (o::rest) a w:=by
 refine wpList_plain hg fun K hK' => ?_
 unfold Oper.wp;simp[execOp,hop,resolve,invoke,builtin,hs,hx,hrun,Result.andThen];exact hK' _ _ hK
theorem grow_nil (n:Nat) (w:World) (hn:n≤1073741824):
 Calls Tryz.prog 288 #[.slice none 0 0,.int .i64 n] w fun e w' =>∃v,e= .returned v∧w'.ownsRow w.heap.size 9 1 v 0 []∧Below w.heap.size w w' :=by
 obtain⟨i0,hi0,hz0,hz1,hz2⟩:=info_parts Tryz.infoStr;have h1:¬((n:Int)<0):=by omega
 by_cases h0:n=0
 ·subst h0
  go_enter Tryz.func288,Tryz.ntmps288
  go_wp2_with fail
  go_ret
  exact⟨_,rfl,World.ownsRow_nil _ _ _ _,Below.refl _ _⟩
 ·have hold:=run_firstCells_none (P:=Tryz.prog) w.drew i0.size 0 0 0
  have hfit:Builtin.nextslicecap (0+n) 0*i0.bytes≤281474976710656:=growslice_fits (by omega) (by rw[hz2];omega)
  have hrz:∀ty,(Builtin.append_ #[30,3] ty #[.slice none 0 0,.int .i64 (n:Int)]).run Tryz.prog w= .ok (.slice (some ⟨w.heap.size,0,none⟩) n (grownCap w n 0 9)) (w.drew.alloc (.cells (Builtin.zeroCells (Value.string ⟨#[]⟩).cells n++Builtin.zeroCells (Value.string ⟨#[]⟩).cells (grownCap w n 0 9-n)) 9)):=fun ty=>by
   have h:=Lib.run_append_grow_zeros (P:=Tryz.prog) w 30 3 ty 9 i0 _ .i64 .i64 Tryz.underlying30 Tryz.underlying3 hi0 hz0 none 0 0 [] hold n (by omega) (by omega) (by omega) (by omega) (by rw[hz2];omega) hfit
   simpa using h
  have hGn:=grownCap_ge w n 0 9;have hG6:=grownCap_le_maxLen w n 0 9 (by unfold maxLen;omega)
  have HOW:=hide (World.ownsRow_made (base:=w.heap.size) (e:=9) (size:=1) w.drew (Builtin.zeroCells (Value.string ⟨#[]⟩).cells n++Builtin.zeroCells (Value.string ⟨#[]⟩).cells (grownCap w n 0 9-n)) (grownCap w n 0 9) (Nat.le_refl _) hG6 (by rw[Array.size_append,size_zeroCells,size_zeroCells,show (Value.string ⟨#[]⟩).cells.size=1 from rfl];omega))
  have HBB:=hide ((Below.refl w.heap.size w).drew.alloc (Nat.le_refl _) (.cells (Builtin.zeroCells (Value.string ⟨#[]⟩).cells n++Builtin.zeroCells (Value.string ⟨#[]⟩).cells (grownCap w n 0 9-n)) 9));unfold maxLen at hG6;generalize (w.drew.alloc (.cells (Builtin.zeroCells (Value.string ⟨#[]⟩).cells n++Builtin.zeroCells (Value.string ⟨#[]⟩).cells (grownCap w n 0 9-n)) 9))=W' at*
  generalize grownCap w n 0 9=G at*;have h4:(0:Int)<(n:Int):=by omega
  have i1:(n:Int)≤1073741824:=by omega
  have i2:(0:Int)≤(G:Int):=by omega
  have e1:IntKind.wrap .i64 ((n:Int)-0)=(n:Int):=by rw[Int.sub_zero];exact wrap_small (by omega) (by omega)
  have e2:IntKind.wrap .i64 (n:Int)=(n:Int):=wrap_small (by omega) (by omega);have HRZ:=hide hrz;clear hold hfit hrz
  go_enter Tryz.func288,Tryz.ntmps288
  go_wp2_with (first
   |(at_builtin;refine wpList_append_run _ rfl (.tmp 20) (.tmp 21) 30 3 rfl _ _ rfl rfl _ _ (uh HRZ _) ?_)
   |fail)
  go_ret
  exact⟨_,rfl,uh HOW,uh HBB⟩
theorem addr_addo (g o j:Nat):(⟨g,o,none⟩:Addr).add j=⟨g,o+j,none⟩:=by unfold Addr.add;split<;>simp_all
def SlS (W:World) (v:Value) (x:List Pl.Bs):Prop:=(v= .slice none 0 0∧x=[])∨∃b o c,v= .slice (some ⟨b,o,none⟩) x.length c∧b<W.heap.size∧RdN W b o x
theorem SlS.later {W W' :World} {v:Value} {x:List Pl.Bs} (h:SlS W v x) (hb:Below W.heap.size W W'):SlS W' v x:=by
 rcases h with h|⟨b,o,c,h1,h2,h3⟩
 ·exact .inl h
 ·exact .inr ⟨b,o,c,h1,Nat.lt_of_lt_of_le h2 hb.size,h3.below hb h2⟩
theorem SlS.sh {W:World} {v:Value} {x:List Pl.Bs} (h:SlS W v x):∃a c,v= .slice a x.length c:=by
 rcases h with⟨h1,h2⟩|⟨b,o,c,h1,h2,h3⟩
 ·subst h2;exact⟨none,0,h1⟩
 ·exact⟨_,c,h1⟩
def LsR (W:World) (b o:Nat) (ls:List (List Pl.Bs)):Prop:=∀(j:Nat) (x:List Pl.Bs),ls[j]?=some x→∃v,W.cell? ⟨b,o+j,none⟩=some v∧SlS W v x
structure CcI (W:World) (ls:List (List Pl.Bs)) (i:Nat) (v:Value) (wr:World):Prop where
 below:Below W.heap.size W wr
 own:wr.ownsRow W.heap.size 9 1 v (ls.take i).flatten.length ((ls.take i).flatten.map strV)
theorem flat_le (ls:List (List Pl.Bs)) (i:Nat):(ls.take i).flatten.length≤ls.flatten.length:=by
 have:ls.flatten=(ls.take i).flatten++(ls.drop i).flatten:=by rw[←List.flatten_append,List.take_append_drop]
 rw[this,List.length_append];omega
theorem flat_next (ls:List (List Pl.Bs)) (i:Nat) (h:i<ls.length):(ls.take (i+1)).flatten=(ls.take i).flatten++ls[i]:=by
 rw[List.take_succ_eq_append_getElem h,List.flatten_append];simp
def cnt (ls:List (List Pl.Bs)) (i:Nat):Nat:=(ls.take i).flatten.length
theorem cnt_all (ls:List (List Pl.Bs)):cnt ls ls.length=ls.flatten.length:=by unfold cnt;rw[List.take_length]
theorem str_ones (x:List Pl.Bs):∀u∈x.map strV,u.oneCell' =true:=fun u hu=>by
 obtain⟨y,-,rfl⟩:=List.mem_map.1 hu;rfl
theorem concat_any (ls:List (List Pl.Bs)) (a:Option Addr) (cap b o:Nat) (W:World) (ha:0<ls.length→a=some ⟨b,o,none⟩∧b<W.heap.size∧LsR W b o ls) (hn:ls.length≤1073741824) (hl:ls.flatten.length≤1073741824):
 Calls Tryz.prog 267 #[.slice a ls.length cap] W fun e W' =>∃v,e= .returned v∧W'.ownsRow W.heap.size 9 1 v ls.flatten.length (ls.flatten.map strV)∧Below W.heap.size W W' :=by
 obtain⟨i0,hi0,hz0,hz1,hz2⟩:=info_parts Tryz.infoStr;have HA:=hide ha;have CG:=hide (grow_nil (cnt ls ls.length) W (by rw[cnt_all];exact hl));clear ha
 go_enter Tryz.func267,Tryz.ntmps267
 go_wp2_with fail
 go_loopw [3,11] (fun sv iv wr=>∃i:Nat,iv= .int .i64 i∧i≤ls.length∧sv= .int .i64 (cnt ls i:Nat)∧wr=W) (fun _ iv _=>ls.length-intN iv)
 case atStart=>exact⟨0,rfl,by omega,rfl,rfl⟩
 case round=>
  obtain⟨i,rfl,hi2,rfl,rfl⟩:=hrel
  by_cases hi:i<ls.length
  ·have t1:(i:Int)<ls.length:=by omega
   have t0:(0:Int)≤(i:Int):=by omega
   obtain⟨rfl,hb,hr⟩:=uh HA (by omega);obtain⟨v,cv,hv⟩:=hr i ls[i] (List.getElem?_eq_getElem hi);obtain⟨a1,c1,rfl⟩:=hv.sh;have h1:=flat_le ls (i+1);have h2:=flat_next ls i hi;have h3:cnt ls (i+1)=cnt ls i+ls[i].length:=by unfold cnt;rw[h2,List.length_append]
   have HN3:=hide h3;have h1' :cnt ls (i+1)≤ls.flatten.length:=h1;rw[h3] at h1';clear hr h1 h2 h3 hv;generalize ls[i].length=m at*;generalize cnt ls i=n at*;have i1:(n:Int)+(m:Int)≤1073741824:=by omega
   have i2:¬(n:Int)+(m:Int)<0:=by omega
   go_wp2_with fail
   go_roundw
   case rel=>exact⟨i+1,by go_num,by omega,by rw[uh HN3];go_num,by first|rfl|trivial⟩
   case measure=>simp only[intN];omega
  ·have hie:i=ls.length:=by omega
   subst hie;have t1:¬(ls.length:Int)<ls.length:=by omega
   go_wp2_with (first
    |(go_at_call 288;refine(uh CG).mono ?_;clear CG;rintro e w1 ⟨v1,rfl,ho1,hb1⟩;have HX0:Hid (CcI wr ls 0 v1 w1):=⟨hb1,ho1⟩;clear ho1 hb1)
    |fail)
   obtain⟨W0,hW0⟩:∃W0,W0=wr:=⟨_,rfl⟩;rw[←hW0] at HX0 HA
   go_loopw [6,27] (fun v iv wi=>∃i:Nat,iv= .int .i64 i∧i≤ls.length∧Hid (CcI W0 ls i v wi)) (fun _ iv _=>ls.length-intN iv)
   case atStart=>exact⟨0,rfl,by omega,HX0⟩
   case round=>
    clear HX0;obtain⟨i,rfl,hi2,HX⟩:=hrel
    by_cases hi:i<ls.length
    ·have u1:(i:Int)<ls.length:=by omega
     have u0:(0:Int)≤(i:Int):=by omega
     obtain⟨rfl,hb,hr⟩:=uh HA (by omega);obtain⟨v,cv,hv⟩:=hr i ls[i] (List.getElem?_eq_getElem hi);have cv' :=((uh HX).below.cell (p:=⟨b,o+i,none⟩) hb).trans cv;have hv' :=hv.later (uh HX).below;have h1:=flat_le ls (i+1);have h2:=flat_next ls i hi;have hsz:=(uh HX).below.size;have HH2:=hide h2
     have h3:(ls.take i).flatten.length+ls[i].length≤1073741824:=by rw[h2,List.length_append] at h1;omega
     clear hr h1 h2 hv cv;generalize ls[i]=x at*
     rcases hv' with⟨rfl,rfl⟩|⟨b1,o1,c1,rfl,hb1,hr1⟩
     ·have HX1:Hid (CcI W0 ls (i+1) u6 wr):=⟨(uh HX).below,by rw[uh HH2,List.append_nil];exact(uh HX).own⟩
      have HR:=hide (run_append_owned_none (P:=Tryz.prog) (w:=wr) W0.heap.size 30 30 9 i0 1 Tryz.underlying30 hi0 u6 _ _ (uh HX).own)
      go_wp2_with (first
       |(at_builtin;refine wpList_append_run _ rfl (.tmp 31) (.tmp 32) 30 30 rfl _ _ rfl rfl _ _ (uh HR) ?_)
       |fail)
      go_roundw
      case rel=>exact⟨i+1,by go_num,by omega,HX1⟩
      case measure=>simp only[intN];omega
     ·have HR1:=hide hr1
      clear hr1
      go_wp2_with (first
       |(at_builtin;refine wpList_append_own_at _ rfl (.tmp 31) (.tmp 32) 30 rfl W0.heap.size 9 i0 (.string ⟨#[]⟩) 1 16 Tryz.underlying30 hi0 hz0 hz1 hz2 rfl (by decide) _ _ _ rfl (uh HX).own ⟨b1,o1,none⟩ x.length c1 (x.map strV) rfl (by rw[List.length_map];omega) (fun j u hj=>by rw[addr_addo];rw[List.getElem?_map] at hj;cases hx:x[j]? with|none=>(rw [hx] at hj;cases hj)|some y=>(rw [hx] at hj;cases hj;exact uh HR1 j y hx)) (str_ones x) (by unfold maxLen;omega) (by omega) (by omega) ?_;intro v6 w6 hown6 hgrow6 _ _;have HX6:Hid (CcI W0 ls (i+1) v6 w6):=⟨(uh HX).below.trans ((Tn.grown (p:=fun q=>W0.heap.size≤q) hgrow6 (fun q hq=>((uh HX).own.lt q hq).1)).below hsz (fun q hq=>hq)),by rw[uh HH2,List.length_append,List.map_append];exact hown6⟩;clear hown6 hgrow6)
       |fail)
      go_roundw
      case rel=>exact⟨i+1,by go_num,by omega,HX6⟩
      case measure=>simp only[intN];omega
    ·have hie:i=ls.length:=by omega
     subst hie;have u1:¬(ls.length:Int)<ls.length:=by omega
     have hob:=(uh HX).own;rw[List.take_length,List.length_flatten,List.map_flatten] at hob;have HO:=hide hob;have HBx:=hide (uh HX).below;clear hob HX;subst hW0
     go_wp2_with fail
     go_ret
     exact⟨_,rfl,uh HO,uh HBx⟩
def onceB:List Pl.Bs→List Pl.Bs→List Pl.Bs
 |[],acc=>acc
 |x::r,acc=>if x∈acc then onceB r acc else onceB r (acc++[x])
theorem own_base {w:World} {B B' e size n:Nat} {v:Value} {xs:List Value} (h:w.ownsRow B e size v n xs) (hb:B' ≤B):w.ownsRow B' e size v n xs:=by
 refine⟨h.1,?_⟩
 rcases h.2 with h1|⟨g,cap,cur,h1,h2,h3⟩
 ·exact .inl h1
 ·exact .inr ⟨g,cap,cur,h1,Nat.le_trans hb h2,h3⟩
structure OnI (w2:World) (sb:Nat) (all:List Pl.Bs) (i:Nat) (acc:List Pl.Bs) (v:Value) (wr:World):Prop where
 tn:Tn (fun k=>k=sb) w2 wr
 seen:SMap wr sb (mEnts acc)
 own:wr.ownsRow w2.heap.size 9 1 v acc.length (acc.map strV)
 cont:onceB (all.drop i) acc=onceB all []
 len:acc.length≤i
theorem OnI.skip {w2 wr w4:World} {sb i:Nat} {all acc:List Pl.Bs} {v:Value} (h:OnI w2 sb all i acc v wr) (hi:i<all.length) (hin:all[i]∈acc) (hb:Below wr.heap.size wr w4):OnI w2 sb all (i+1) acc v w4:=
 ⟨h.tn.trans (Tn.later hb),h.seen.later hb,own_same h.own (fun k hk=>hb.block k (h.own.lt k hk).2),by have:=h.cont;rw[List.drop_eq_getElem_cons hi,onceB,if_pos hin] at this;exact this,by have:=h.len;omega⟩
theorem OnI.add {w2 wr w4 w6:World} {sb i:Nat} {all acc:List Pl.Bs} {v v6:Value} {o o' :Obj} (h:OnI w2 sb all i acc v wr) (hi:i<all.length) (hin:all[i]∉acc) (hsb:sb<w2.heap.size) (hs:SMap w4 sb (mput (mEnts acc) all[i] (.agg #[]))) (ht:(wr.alloc o).mapTurned w4 sb) (hg:(w4.alloc o').grownBy w6 v.ownBlock)
 (hown:w6.ownsRow w2.heap.size 9 1 v6 (acc.length+1) (acc.map strV++[strV all[i]])):OnI w2 sb all (i+1) (acc++[all[i]]) v6 w6:=by
 have hb1:=(Below.refl wr.heap.size wr).alloc (Nat.le_refl _) o;have t4:=map_tn (p:=fun k=>k=sb) ht rfl;have hb2:=(Below.refl w4.heap.size w4).alloc (Nat.le_refl _) o';have hne:some sb≠v.ownBlock:=own_ne h.own hsb;have hs1:=t4.size;have hz1:(wr.alloc o).heap.size=wr.heap.size+1:=World.size_alloc _ _;rw[mput_m hin] at hs
 refine⟨(((h.tn.trans (Tn.later hb1)).trans t4).trans (Tn.later hb2)).tail (Tn.grown (p:=fun k=>w2.heap.size≤k) hg (fun k e=>(h.own.lt k e).1)) (fun k e=>e),(hs.later hb2).kept hg hne,by rw[List.length_append,List.map_append];exact hown,?_,by rw[List.length_append,List.length_singleton];have:=h.len;omega⟩;have:=h.cont;rw[List.drop_eq_getElem_cons hi,onceB,if_neg hin] at this
 exact this
theorem once_any (ls:List (List Pl.Bs)) (a:Option Addr) (cap b o:Nat) (W:World) (ha:0<ls.length→a=some ⟨b,o,none⟩∧b<W.heap.size∧LsR W b o ls) (hn:ls.length≤1073741824) (hl:ls.flatten.length≤1073741824):
 Calls Tryz.prog 230 #[.slice a ls.length cap] W fun e W' =>∃v,e= .returned v∧W'.ownsRow W.heap.size 9 1 v (onceB ls.flatten []).length ((onceB ls.flatten []).map strV)∧Below W.heap.size W W' :=by
 obtain⟨i0,hi0,hz0,hz1,hz2⟩:=info_parts Tryz.infoStr;have hmm:= @run_makeMap Tryz.prog;have q1:=(Below.refl W.heap.size W).alloc (Nat.le_refl _) (.map #[] 0);have hzz:(W.alloc (.map #[] 0)).heap.size=W.heap.size+1:=World.size_alloc _ _
 have CC:=hide (concat_any ls a cap b o (W.alloc (.map #[] 0)) (fun e=>⟨(ha e).1,Nat.lt_of_lt_of_le (ha e).2.1 q1.size,fun j x hj=>by obtain⟨v,h1,h2⟩:=(ha e).2.2 j x hj;exact⟨v,(q1.cell (p:=⟨b,_,none⟩) (ha e).2.1).trans h1,h2.later q1⟩⟩) hn hl);have HS0:=hide (SMap.made W);have HQ:=hide q1;generalize hfl:ls.flatten=all at*;clear ha q1
 go_enter Tryz.func230,Tryz.ntmps230
 go_wp2_with (first
  |(go_at_call 267;refine(uh CC).mono ?_;clear CC;rintro e w2 ⟨vC,rfl,ho2,hb2⟩;obtain⟨ac,cc,rfl⟩:=own_sh ho2;have HB2:=hide ((uh HQ).trans (hb2.mono (uh HQ).size));have HO2:=hide ho2;have hs2:=hb2.size;have HX0:Hid (OnI w2 W.heap.size all 0 [] (.slice none 0 0) w2):=⟨Tn.refl _ _,(uh HS0).later hb2,World.ownsRow_nil _ _ _ _,rfl,Nat.le_refl _⟩;clear ho2 hb2)
  |fail)
 clear hmm
 go_loopw [3,13] (fun v iv wr=>∃(i:Nat) (acc:List Pl.Bs),iv= .int .i64 i∧i≤all.length∧Hid (OnI w2 W.heap.size all i acc v wr)) (fun _ iv _=>all.length-intN iv)
 case atStart=>exact⟨0,[],rfl,by omega,HX0⟩
 case round=>
  clear HX0;obtain⟨i,acc,rfl,hi2,HX⟩:=hrel
  by_cases hi:i<all.length
  ·have t1:(i:Int)<all.length:=by omega
   have t0:(0:Int)≤(i:Int):=by omega
   obtain⟨g,k2,hac,hg1,hg2⟩:=owns_form (uh HO2) (by omega);cases hac;have hoi:=own_same (uh HO2) (fun k hk=>(uh HX).tn.block k ((uh HO2).lt k hk).2 (by have:=((uh HO2).lt k hk).1;omega));have cn:=own_cell hoi i (by simpa using hi);rw[List.getElem_map] at cn;have hws:=(uh HX).tn.size;have hal:=(uh HX).len
   have HF1:Hid (∀o:Obj,SMap (wr.alloc o) W.heap.size (mEnts acc)):=fun o=>(uh HX).seen.later ((Below.refl _ wr).alloc (Nat.le_refl _) o)
   have HBA:Hid (∀o:Obj,Below wr.heap.size wr (wr.alloc o)):=fun o=>(Below.refl _ wr).alloc (Nat.le_refl _) o
   clear hoi;unfold strV at cn
   by_cases hin:all[i]∈acc
   ·have HK:=hide (fun w4=>(uh HX).skip (w4:=w4) hi hin)
    have hmg:mget (mEnts acc) all[i]=some (.agg #[]):=by rw[mget_m,if_pos hin]
    have HMG:=hide hmg;clear hmg hin;generalize all[i]=x at*
    go_wp2_with (first
     |(at_lookup;refine wpList_look_ok_yes _ rfl _ _ 140 rfl 9 316 Tryz.underlying140 Tryz.underlying9 (.agg #[]) (zeroSt _) W.heap.size (mEnts acc) rfl (uh HX).seen x rfl (.agg #[]) (uh HMG) ?_)
     |fail)
    go_roundw
    case rel=>exact⟨i+1,acc,by go_num,by omega,uh HK _ (uh HBA _)⟩
    case measure=>simp only[intN];omega
   ·have HK:=hide (fun w4 w6 v6 (o o' :Obj)=>(uh HX).add (w4:=w4) (w6:=w6) (v6:=v6) (o:=o) (o' :=o') hi hin (by omega))
    have hmg:mget (mEnts acc) all[i]=none:=by rw[mget_m,if_neg hin]
    have HMG:=hide hmg;clear hmg hin;generalize all[i]=x at*
    go_wp2_with (first
     |(at_lookup;refine wpList_look_ok_no _ rfl _ _ 140 rfl 9 316 Tryz.underlying140 Tryz.underlying9 (.agg #[]) (zeroSt _) W.heap.size (mEnts acc) rfl (uh HX).seen x rfl (uh HMG) ?_)
     |(at_mapUpdate;refine wpList_put_s _ rfl _ _ _ 140 rfl 9 316 Tryz.underlying140 Tryz.underlying9 W.heap.size (mEnts acc) rfl (uh HF1 _) (by unfold mEnts maxLen;rw[List.length_map];omega) x rfl (.agg #[]) rfl ?_;intro w4 hs4 ht4;have t4:=map_tn (p:=fun k=>k=W.heap.size) ht4 rfl;have hs44:=t4.size;have HO4:=hide (own_same (uh HX).own (fun k hk=>(t4.block k (by have:=((uh HX).own.lt k hk).2;rw[World.size_alloc];omega) (by have:=((uh HX).own.lt k hk).1;omega)).trans (Below.heap_alloc wr _ k ((uh HX).own.lt k hk).2)));have hs45:wr.heap.size+1≤w4.heap.size:=(by rw[World.size_alloc] at hs44;exact hs44);have HS4:=hide hs4;have HT4:=hide ht4;clear hs4 ht4 t4 hs44)
     |(at_builtin;refine wpList_append_own_at _ rfl (.tmp 28) (.tmp 30) 30 rfl w2.heap.size 9 i0 (.string ⟨#[]⟩) 1 16 Tryz.underlying30 hi0 hz0 hz1 hz2 rfl (by decide) _ acc.length _ rfl (World.ownsRow.alloc (uh HO4) _) ⟨_,0,none⟩ 1 1 [.string ⟨x.toArray⟩] rfl rfl (cells_new _ _ [_]) (one_one _) (by unfold maxLen;omega) (by omega) (by rw[World.size_alloc];omega) ?_;intro v6 w6 hown6 hgrow6 _ _;have HX6:=hide (uh HK _ _ _ _ _ (uh HS4) (uh HT4) hgrow6 hown6);clear hown6 hgrow6)
     |fail)
    go_roundw
    case rel=>exact⟨i+1,_,by go_num,by omega,HX6⟩
    case measure=>simp only[intN];omega
  ·have hie:i=all.length:=by omega
   subst hie;have t1:¬(all.length:Int)<all.length:=by omega
   have hc:=(uh HX).cont;rw[List.drop_length] at hc;have hc' :acc=onceB all []:=hc
   have HO:Hid (wr.ownsRow W.heap.size 9 1 u3 (onceB all []).length ((onceB all []).map strV)):=by
    show World.ownsRow _ _ _ _ _ _ _;rw[←hc'];exact own_base (uh HX).own (by omega)
   have HBx:=hide ((uh HB2).trans ((uh HX).tn.below (B:=W.heap.size) (by omega) (fun k e=>by omega)));clear hc hc'
   go_wp2_with fail
   go_ret
   exact⟨_,rfl,uh HO,uh HBx⟩
def BkR (W:World) (bb nm bt pb:Nat) (vp:Value) (first:Pl.Bs):Prop:=Row W bb 142 [.map (some nm),vp,strV first,.map (some bt),.map (some pb)]
theorem bookFirst_any (bb nm bt pb:Nat) (vp:Value) (first:Pl.Bs) (W:World) (h:BkR W bb nm bt pb vp first):
 Calls Tryz.prog 90 #[.pointer (some ⟨bb,0,none⟩)] W fun e W' =>e= .returned (.string ⟨first.toArray⟩)∧W' =W:=by
 have c2:=Row.cell? (i:=2) h rfl;unfold strV at c2;clear h
 go_enter Tryz.func90,Tryz.ntmps90
 go_wp2_with fail
 go_ret
 exact⟨rfl,rfl⟩
theorem isPhony_any (bb nm bt pb:Nat) (vp:Value) (first:Pl.Bs) (ph:List Pl.Bs) (name:Pl.Bs) (W:World) (h:BkR W bb nm bt pb vp first) (hp:SMap W pb (mEnts ph)):
 Calls Tryz.prog 237 #[.pointer (some ⟨bb,0,none⟩),.string ⟨name.toArray⟩] W fun e W' =>e= .returned (.bool (decide (name∈ph)))∧Below W.heap.size W W' :=by
 have c4:=Row.cell? (i:=4) h rfl;have HP:=hide hp;have HB:=hide ((Below.refl W.heap.size W).alloc (Nat.le_refl _) (.cells #[] 316));clear h hp
 by_cases hin:name∈ph
 ·have hmg:mget (mEnts ph) name=some (.agg #[]):=by rw[mget_m,if_pos hin]
  have HMG:=hide hmg;rw[decide_eq_true hin];clear hmg hin
  go_enter Tryz.func237,Tryz.ntmps237
  go_wp2_with (first
   |(at_lookup;refine wpList_look_ok_yes _ rfl _ _ 140 rfl 9 316 Tryz.underlying140 Tryz.underlying9 (.agg #[]) (zeroSt _) pb (mEnts ph) rfl (uh HP) name rfl (.agg #[]) (uh HMG) ?_)
   |fail)
  go_ret
  exact⟨rfl,uh HB⟩
 ·have hmg:mget (mEnts ph) name=none:=by rw[mget_m,if_neg hin]
  have HMG:=hide hmg;rw[decide_eq_false hin];clear hmg hin
  go_enter Tryz.func237,Tryz.ntmps237
  go_wp2_with (first
   |(at_lookup;refine wpList_look_ok_no _ rfl _ _ 140 rfl 9 316 Tryz.underlying140 Tryz.underlying9 (.agg #[]) (zeroSt _) pb (mEnts ph) rfl (uh HP) name rfl (uh HMG) ?_)
   |fail)
  go_ret
  exact⟨rfl,uh HB⟩
theorem zeroRules (w:World):(zeroValue 138).run Tryz.prog w= .ok (.slice none 0 0) w:=by kernel_rfl
theorem bookOf_any (bb nm bt pb:Nat) (vp:Value) (first:Pl.Bs) (l:Ents) (name:Pl.Bs) (u:Value) (W:World) (h:BkR W bb nm bt pb vp first) (hp:SMap W bt l) (hu:(mget l name).getD (.slice none 0 0)=u):
 Calls Tryz.prog 236 #[.pointer (some ⟨bb,0,none⟩),.string ⟨name.toArray⟩] W fun e W' =>e= .returned u∧W' =W:=by
 have c3:=Row.cell? (i:=3) h rfl;have HP:=hide hp;have HU:=hide hu;clear h hp hu
 go_enter Tryz.func236,Tryz.ntmps236
 go_wp2_with (first
  |(at_lookup;refine wpList_look_one _ rfl _ _ 139 rfl 9 138 Tryz.underlying139 Tryz.underlying9 (.slice none 0 0) (zeroRules _) bt l rfl (uh HP) name rfl u (uh HU) ?_)
  |fail)
 go_ret
 exact⟨rfl,rfl⟩
theorem isTarget_any (bb nm bt pb:Nat) (vp:Value) (first:Pl.Bs) (l:Ents) (name:Pl.Bs) (a:Option Addr) (n c:Nat) (W:World) (h:BkR W bb nm bt pb vp first) (hp:SMap W bt l) (hu:(mget l name).getD (.slice none 0 0)= .slice a n c):
 Calls Tryz.prog 188 #[.pointer (some ⟨bb,0,none⟩),.string ⟨name.toArray⟩] W fun e W' =>e= .returned (.bool (decide (0<n)))∧W' =W:=by
 have c3:=Row.cell? (i:=3) h rfl;have HP:=hide hp;have HU:=hide hu;have hd:decide ((0:Int)<(n:Int))=decide (0<n):=by rw[decide_eq_decide];omega
 have HD:=hide hd;clear h hp hu hd
 go_enter Tryz.func188,Tryz.ntmps188
 go_wp2_with (first
  |(at_lookup;refine wpList_look_one _ rfl _ _ 139 rfl 9 138 Tryz.underlying139 Tryz.underlying9 (.slice none 0 0) (zeroRules _) bt l rfl (uh HP) name rfl _ (uh HU) ?_)
  |fail)
 go_ret
 exact⟨by rw[←uh HD];first|rfl|simp,rfl⟩
def phAdd (ph:List Pl.Bs) (x:Pl.Bs):List Pl.Bs:=if x∈ph then ph else ph++[x]
theorem mput_in {k:Pl.Bs}:∀{mk:List Pl.Bs},k∈mk→mput (mEnts mk) k (.agg #[])=mEnts mk
 |[],h=>by cases h
 |y::r,h=>by
  unfold mEnts;rw[List.map_cons,mput];cases hy:(y==k) with
  |true=>
   have:y=k:=by simpa using hy
   subst this;simp
  |false=>
   have hk:k∈r:=by
    rcases List.mem_cons.1 h with e|e
    ·subst e;simp at hy
    ·exact e
   have ih:=mput_in hk;unfold mEnts at ih;simp[ih]
theorem mput_ph (ph:List Pl.Bs) (x:Pl.Bs):mput (mEnts ph) x (.agg #[])=mEnts (phAdd ph x):=by
 unfold phAdd;split
 ·next h=>exact mput_in h
 ·next h=>exact mput_m h
theorem phAdd_len (ph:List Pl.Bs) (x:Pl.Bs):(phAdd ph x).length≤ph.length+1:=by
 unfold phAdd;split
 ·omega
 ·simp
theorem phFold_len:∀(xs ph:List Pl.Bs),(xs.foldl phAdd ph).length≤ph.length+xs.length
 |[],_=>Nat.le_refl _
 |x::r,ph=>by
  have ih:=phFold_len r (phAdd ph x);have:=phAdd_len ph x;rw[List.foldl_cons,List.length_cons];omega
structure PhI (W:World) (pb:Nat) (ph xs:List Pl.Bs) (i:Nat) (wr:World):Prop where
 tn:Tn (fun k=>k=pb) W wr
 map:SMap wr pb (mEnts ((xs.take i).foldl phAdd ph))
theorem addPhony_any (bb nm bt pb:Nat) (vp:Value) (first:Pl.Bs) (ph xs:List Pl.Bs) (a:Option Addr) (cap b o:Nat) (W:World) (h:BkR W bb nm bt pb vp first) (hp:SMap W pb (mEnts ph)) (ha:0<xs.length→a=some ⟨b,o,none⟩∧RdN W b o xs∧(∃cs fz,W.heap[b]?=some (Obj.cells cs 9 fz))) (hn:ph.length+xs.length≤1073741824):
 Calls Tryz.prog 229 #[.pointer (some ⟨bb,0,none⟩),.slice a xs.length cap] W fun e W' =>e= .returned (.tuple #[])∧SMap W' pb (mEnts (xs.foldl phAdd ph))∧Tn (fun k=>k=pb) W W' :=by
 have HH:=hide h;have HA:=hide ha;have hne:bb≠pb:=row_ne_map' h hp;have HX0:Hid (PhI W pb ph xs 0 W):=⟨Tn.refl _ _,hp⟩;have HP:=hide hp;clear h ha hp
 go_enter Tryz.func229,Tryz.ntmps229
 go_wp2_with fail
 go_loopw [8] (fun iv wr=>∃i:Nat,iv= .int .i64 i∧i≤xs.length∧Hid (PhI W pb ph xs i wr)) (fun iv _=>xs.length-intN iv)
 case atStart=>exact⟨0,rfl,by omega,HX0⟩
 case round=>
  clear HX0;obtain⟨i,rfl,hi2,HX⟩:=hrel
  by_cases hi:i<xs.length
  ·have t1:(i:Int)<xs.length:=by omega
   have t0:(0:Int)≤(i:Int):=by omega
   obtain⟨rfl,hr,cs,fz,hbk⟩:=uh HA (by omega)
   have hbp:b≠pb:=fun e=>by
    obtain⟨es,clock,hk,_⟩:=uh HP;subst e;rw[hbk] at hk;cases hk
   have cn:=(hr.same ((uh HX).tn.block b (Array.getElem?_eq_some_iff.1 hbk).1 hbp)) i xs[i] (List.getElem?_eq_getElem hi);have c4:=Row.cell? (i:=4) (Row.tn (uh HH) (uh HX).tn hne) rfl
   have htk:(xs.take (i+1)).foldl phAdd ph=phAdd ((xs.take i).foldl phAdd ph) xs[i]:=by
    rw[List.take_succ_eq_append_getElem hi,List.foldl_append];rfl
   have HTK:=hide htk;have hll:=phFold_len (xs.take i) ph;rw[List.length_take] at hll;clear hr hbk htk;unfold strV at cn;generalize xs[i]=x at*
   go_wp2_with (first
    |(at_mapUpdate;refine wpList_put_s _ rfl _ _ _ 140 rfl 9 316 Tryz.underlying140 Tryz.underlying9 pb (mEnts ((xs.take i).foldl phAdd ph)) rfl (uh HX).map (by unfold mEnts maxLen;rw[List.length_map];omega) x rfl (.agg #[]) rfl ?_;intro w4 hs4 ht4;rw[mput_ph] at hs4;have HX4:Hid (PhI W pb ph xs (i+1) w4):=⟨(uh HX).tn.trans (map_tn ht4 rfl),(by rw[uh HTK];exact hs4)⟩;clear hs4 ht4)
    |fail)
   go_roundw
   case rel=>exact⟨i+1,by go_num,by omega,HX4⟩
   case measure=>simp only[intN];omega
  ·have hie:i=xs.length:=by omega
   subst hie;have t1:¬(xs.length:Int)<xs.length:=by omega
   have hmp:=(uh HX).map;rw[List.take_length] at hmp;have HM:=hide hmp;clear hmp
   go_wp2_with fail
   go_end0
   exact⟨rfl,uh HM,(uh HX).tn⟩
end Go.Proofs.YtjelacjggijmfaaGreatDoor
