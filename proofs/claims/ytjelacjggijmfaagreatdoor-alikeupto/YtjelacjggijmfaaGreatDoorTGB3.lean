/-
  The reader's memory: the book, its rules, its rows; which block belongs to what.
-/
import Derived.Test.YtjelacjggijmfaaGreatDoorTGT3
set_option maxHeartbeats 2000000
set_option maxRecDepth 100000
namespace Go.Proofs.YtjelacjggijmfaaGreatDoor
open Go.RowKit Go.MapKept Go.ChangeMaps Go.Maps
theorem three_maps (W:World) (t:TypeId) (us:List Value):∃Z,Z=(((W.alloc (.map #[] 0)).alloc (.map #[] 0)).alloc (.map #[] 0)).alloc (.cells us.toArray t)∧SMap Z W.heap.size []∧SMap Z (W.heap.size+1) []∧SMap Z (W.heap.size+2) []∧Row Z (W.heap.size+3) t us∧Below W.heap.size W Z∧Z.heap.size=W.heap.size+4:=by
 have z1:(W.alloc (.map #[] 0)).heap.size=W.heap.size+1:=World.size_alloc _ _;have z2:((W.alloc (.map #[] 0)).alloc (.map #[] 0)).heap.size=W.heap.size+2:=by rw[World.size_alloc,z1]
 have z3:(((W.alloc (.map #[] 0)).alloc (.map #[] 0)).alloc (.map #[] 0)).heap.size=W.heap.size+3:=by rw[World.size_alloc,z2]
 have m1:=SMap.made W;have m2:=SMap.made (W.alloc (.map #[] 0));have m3:=SMap.made ((W.alloc (.map #[] 0)).alloc (.map #[] 0));have r4:=Row.new (((W.alloc (.map #[] 0)).alloc (.map #[] 0)).alloc (.map #[] 0)) t us;rw[z1] at m2;rw[z2] at m3;rw[z3] at r4;have b2:=(Below.refl _ (W.alloc (.map #[] 0))).alloc (Nat.le_refl _) (.map #[] 0)
 have b3:=(Below.refl _ ((W.alloc (.map #[] 0)).alloc (.map #[] 0))).alloc (Nat.le_refl _) (.map #[] 0);have b4:=(Below.refl _ (((W.alloc (.map #[] 0)).alloc (.map #[] 0)).alloc (.map #[] 0))).alloc (Nat.le_refl _) (.cells us.toArray t);have b1:=(((Below.refl W.heap.size W).alloc (Nat.le_refl _) (.map #[] 0)).alloc (by omega) (.map #[] 0)).alloc (by omega) (.map #[] 0)
 exact⟨_,rfl,((m1.later b2).later b3).later b4,(m2.later b3).later b4,m3.later b4,r4,b1.alloc (by omega) _,by rw[World.size_alloc,z3]⟩
theorem newBook_any (W:World):
 Calls Tryz.prog 88 #[] W fun e W' =>e= .returned (.pointer (some ⟨W.heap.size+3,0,none⟩))∧BkR W' (W.heap.size+3) W.heap.size (W.heap.size+1) (W.heap.size+2) (.slice none 0 0) []∧SMap W' W.heap.size (nEnts [])∧SMap W' (W.heap.size+1) []∧SMap W' (W.heap.size+2) (mEnts [])∧Below W.heap.size W W' ∧W'.heap.size=W.heap.size+4:=by
 have hmm:= @run_makeMap Tryz.prog;obtain⟨Z,hZ,h1,h2,h3,h4,h5,h6⟩:=three_maps W 142 [.map (some W.heap.size),.slice none 0 0,strV [],.map (some (W.heap.size+1)),.map (some (W.heap.size+2))]
 have HP:Hid (BkR Z (W.heap.size+3) W.heap.size (W.heap.size+1) (W.heap.size+2) (.slice none 0 0) []∧SMap Z W.heap.size (nEnts [])∧SMap Z (W.heap.size+1) []∧SMap Z (W.heap.size+2) (mEnts [])∧Below W.heap.size W Z∧Z.heap.size=W.heap.size+4):=⟨h4,h1,h2,h3,h5,h6⟩;have HZ:=hide hZ;clear h1 h2 h3 h4 h5 h6 hZ
 go_enter Tryz.func88,Tryz.ntmps88
 go_wp2_with fail
 go_ret
 have:=uh HP;rw[uh HZ] at this;exact⟨rfl,this⟩
structure AtM (W:World) (wk bb nm bt pb bx bf bi:Nat) (vp ve v2 v3 v4 v5:Value) (first:Pl.Bs) (l:Ents) (tg:Pl.Bs→Bool) (ef:List Pl.Eff) (fs:List Pl.File) (clock:Int):Prop where
 row:Row W wk 193 [.pointer (some ⟨bb,0,none⟩),.pointer (some ⟨bx,0,none⟩),v2,v3,v4,v5]
 book:BkR W bb nm bt pb vp first
 tgts:SMap W bt l
 tg:∀name,∃a n c,(mget l name).getD (.slice none 0 0)= .slice a n c∧tg name=decide (0<n)
 pw:PW W bx bf bi ve ef fs clock
 glob:Glob W
section
variable {W W' :World} {wk bb nm bt pb bx bf bi:Nat} {vp ve v2 v3 v4 v5:Value} {first:Pl.Bs} {l:Ents} {tg:Pl.Bs→Bool} {ef:List Pl.Eff} {fs:List Pl.File} {clock:Int}
theorem AtM.later (h:AtM W wk bb nm bt pb bx bf bi vp ve v2 v3 v4 v5 first l tg ef fs clock) (hb:Below W.heap.size W W'):AtM W' wk bb nm bt pb bx bf bi vp ve v2 v3 v4 v5 first l tg ef fs clock:=
 ⟨h.row.later hb,Row.later h.book hb,h.tgts.later hb,h.tg,h.pw.later hb,h.glob.later hb⟩
def thereB (fs:List Pl.File) (tg:Pl.Bs→Bool) (stem:Pl.Bs) (n:Pl.Bs):Bool:=(Pl.look fs (fillB n stem)).isSome||tg (fillB n stem)
structure ThI (W:World) (f:Pl.Bs→Bool) (xs:List Pl.Bs) (i:Nat) (wr:World):Prop where
 below:Below W.heap.size W wr
 yes:∀x∈xs.take i,f x=true
theorem areThere_any (xs:List Pl.Bs) (stem:Pl.Bs) (a:Option Addr) (cap b o:Nat) (h:AtM W wk bb nm bt pb bx bf bi vp ve v2 v3 v4 v5 first l tg ef fs clock) (ha:0<xs.length→a=some ⟨b,o,none⟩∧b<W.heap.size∧RdN W b o xs) (hn:xs.length≤1073741824) (hl:∀n∈xs,n.length≤4294967200∧n.length+Lib.countB ⟨n.toArray⟩ ⟨#[37]⟩*stem.length≤140737488355328):
 Calls Tryz.prog 141 #[.pointer (some ⟨wk,0,none⟩),.slice a xs.length cap,.string ⟨stem.toArray⟩] W fun e W' =>e= .returned (.bool (xs.all (thereB fs tg stem)))∧Below W.heap.size W W' :=by
 have HA:=hide ha;have HL:=hide hl;have HH:=hide h;have HX0:Hid (ThI W (thereB fs tg stem) xs 0 W):=⟨Below.refl _ _,by simp⟩;clear ha hl h
 go_enter Tryz.func141,Tryz.ntmps141
 go_wp2_with fail
 go_loopw [12] (fun iv wr=>∃i:Nat,iv= .int .i64 i∧i≤xs.length∧Hid (ThI W (thereB fs tg stem) xs i wr)) (fun iv _=>xs.length-intN iv)
 case atStart=>exact⟨0,rfl,by omega,HX0⟩
 case round=>
  clear HX0;obtain⟨i,rfl,hi2,HX⟩:=hrel
  by_cases hi:i<xs.length
  ·have t1:(i:Int)<xs.length:=by omega
   have t0:(0:Int)≤(i:Int):=by omega
   obtain⟨rfl,hb,hr⟩:=uh HA (by omega);have cn:=hr.below (uh HX).below hb i xs[i] (List.getElem?_eq_getElem hi);obtain⟨l1,l2⟩:=uh HL xs[i] (List.getElem_mem hi);have HM:=hide ((uh HH).later (uh HX).below);have hsz:=(uh HX).below.size
   have HF1:Hid (thereB fs tg stem xs[i]=false→xs.all (thereB fs tg stem)=false):=fun e=>by
    show _=_;rw[List.all_eq_false];exact⟨xs[i],List.getElem_mem hi,by rw[e];decide⟩
   have HF2:Hid (thereB fs tg stem xs[i]=true→∀x∈xs.take (i+1),thereB fs tg stem x=true):=fun e x hx=>by
    rw[List.take_succ_eq_append_getElem hi] at hx
    rcases List.mem_append.1 hx with h1|h1
    ·exact(uh HX).yes x h1
    ·rw[List.mem_singleton] at h1;subst h1;exact e
   clear hr;generalize xs[i]=x at*;have HD:Hid (thereB fs tg stem x=((Pl.look fs (fillB x stem)).isSome||tg (fillB x stem))):=rfl;have CF:=hide (fill_any x stem wr (uh HM).glob l1 l2);obtain⟨ta,tn,tc,hu,htg⟩:=(uh HM).tg (fillB x stem);have CH:=hide (fun w1 (hb1:Below wr.heap.size wr w1)=>has_any bx bf bi ve ef fs clock (fillB x stem) w1 ((uh HM).pw.later hb1))
   have CT:=hide (fun w1 (hb1:Below wr.heap.size wr w1)=>isTarget_any bb nm bt pb vp first l (fillB x stem) ta tn tc w1 (Row.later (uh HM).book hb1) ((uh HM).tgts.later hb1) hu);rw[←htg] at CT;clear hu htg;generalize fillB x stem=y at*;generalize (Pl.look fs y).isSome=p1 at*;generalize tg y=p2 at*;unfold strV at cn;cases p1 with
   |true=>
    have HI:=hide (uh HF2 (by rw[uh HD];rfl));clear HF1 HF2 HD
    go_wp2_with (first
     |(go_at_call 187;refine(uh CF).mono ?_;clear CF;rintro e w1 ⟨rfl,hb1⟩;have c1:=Row.cell? (i:=1) ((uh HM).row.later hb1) rfl;have HB1:=hide hb1;clear hb1)
     |(go_at_call 174;refine(uh CH _ (uh HB1)).mono ?_;clear CH;rintro e w2 ⟨rfl,hb2⟩;have HX2:Hid (ThI W (thereB fs tg stem) xs (i+1) w2):=⟨(uh HX).below.trans (((uh HB1).trans (hb2.mono (uh HB1).size)).mono hsz),uh HI⟩;clear hb2)
     |fail)
    go_roundw
    case rel=>exact⟨i+1,by go_num,by omega,HX2⟩
    case measure=>simp only[intN];omega
   |false=>
    cases p2 with
    |true=>
     have HI:=hide (uh HF2 (by rw[uh HD];rfl));clear HF1 HF2 HD
     go_wp2_with (first
      |(go_at_call 187;refine(uh CF).mono ?_;clear CF;rintro e w1 ⟨rfl,hb1⟩;have c1:=Row.cell? (i:=1) ((uh HM).row.later hb1) rfl;have HB1:=hide hb1;clear hb1)
      |(go_at_call 174;refine(uh CH _ (uh HB1)).mono ?_;clear CH;rintro e w2 ⟨rfl,hb2⟩;have HB2:=hide ((uh HB1).trans (hb2.mono (uh HB1).size));have c0:=Row.cell? (i:=0) ((uh HM).row.later (uh HB2)) rfl;clear hb2)
      |(go_at_call 188;refine(uh CT _ (uh HB2)).mono ?_;clear CT;rintro e w3 ⟨rfl,rfl⟩;have HX2:Hid (ThI W (thereB fs tg stem) xs (i+1) w3):=⟨(uh HX).below.trans ((uh HB2).mono hsz),uh HI⟩)
      |fail)
     go_roundw
     case rel=>exact⟨i+1,by go_num,by omega,HX2⟩
     case measure=>simp only[intN];omega
    |false=>
     have HI:=hide (uh HF1 (by rw[uh HD];rfl));clear HF1 HF2 HD
     go_wp2_with (first
      |(go_at_call 187;refine(uh CF).mono ?_;clear CF;rintro e w1 ⟨rfl,hb1⟩;have c1:=Row.cell? (i:=1) ((uh HM).row.later hb1) rfl;have HB1:=hide hb1;clear hb1)
      |(go_at_call 174;refine(uh CH _ (uh HB1)).mono ?_;clear CH;rintro e w2 ⟨rfl,hb2⟩;have HB2:=hide ((uh HB1).trans (hb2.mono (uh HB1).size));have c0:=Row.cell? (i:=0) ((uh HM).row.later (uh HB2)) rfl;clear hb2)
      |(go_at_call 188;refine(uh CT _ (uh HB2)).mono ?_;clear CT;rintro e w3 ⟨rfl,rfl⟩)
      |fail)
     go_ret
     exact⟨by rw[uh HI];rfl,(uh HX).below.trans ((uh HB2).mono hsz)⟩
  ·have hie:i=xs.length:=by omega
   subst hie;have t1:¬(xs.length:Int)<xs.length:=by omega
   have HI:Hid (xs.all (thereB fs tg stem)=true):=by
    show _=_;rw[List.all_eq_true];exact fun x hx=>(uh HX).yes x (by rw[List.take_length];exact hx)
   go_wp2_with fail
   go_ret
   exact⟨by rw[uh HI];rfl,(uh HX).below⟩
end
def RdP (W:World) (b o:Nat) (rs:List Nat):Prop:=∀(j:Nat) (r:Nat),rs[j]?=some r→W.cell? ⟨b,o+j,none⟩=some (.pointer (some ⟨r,0,none⟩))
theorem RdP.below {W W' :World} {b o L:Nat} {rs:List Nat} (h:RdP W b o rs) (hb:Below L W W') (hl:b<L):RdP W' b o rs:=fun j x hj=>(hb.cell (p:=⟨b,o+j,none⟩) hl).trans (h j x hj)
structure IxP (W:World) (f:Nat→Bool) (xs:List Nat) (i:Nat) (wr:World):Prop where
 below:Below W.heap.size W wr
 no:∀x∈xs.take i,f x=false
theorem indexPtr_any (xs:List Nat) (a:Option Addr) (cap b o g:Nat) (caps:Array Value) (f:Nat→Bool) (W:World) (hent:∀args w,(callFunc g args).run Tryz.prog w= .ok (.enter g args) w)
 (hcall:∀w,Below W.heap.size W w→∀x∈xs,Calls Tryz.prog g (#[.pointer (some ⟨x,0,none⟩)]++caps) w fun e w' =>e= .returned (.bool (f x))∧Below w.heap.size w w') (ha:0<xs.length→a=some ⟨b,o,none⟩∧b<W.heap.size∧RdP W b o xs) (hn:xs.length≤1073741824):
 Calls Tryz.prog 265 #[.slice a xs.length cap,.func (.func g) #[] caps] W fun e W' =>e= .returned (idxV (xs.findIdx? f))∧Below W.heap.size W W' :=by
 have HA:=hide ha;have HC:=hide hcall;have HX0:Hid (IxP W f xs 0 W):=⟨Below.refl _ _,by simp⟩;clear ha hcall
 go_enter Tryz.func265,Tryz.ntmps265
 go_wp2_with fail
 go_loopw [8] (fun iv wr=>∃i:Nat,iv= .int .i64 i∧i≤xs.length∧Hid (IxP W f xs i wr)) (fun iv _=>xs.length-intN iv)
 case atStart=>exact⟨0,rfl,by omega,HX0⟩
 case round=>
  clear HX0;obtain⟨i,rfl,hi2,HX⟩:=hrel
  by_cases hi:i<xs.length
  ·have t1:(i:Int)<xs.length:=by omega
   have t0:(0:Int)≤(i:Int):=by omega
   obtain⟨rfl,hb,hr⟩:=uh HA (by omega);have cn:=hr.below (uh HX).below hb i xs[i] (List.getElem?_eq_getElem hi);have CF:=hide (uh HC wr (uh HX).below xs[i] (List.getElem_mem hi));have hsz:=(uh HX).below.size
   have HF1:Hid (f xs[i]=true→xs.findIdx? f=some i):=fun e=>by
    rw[List.findIdx?_eq_some_iff_getElem];refine⟨hi,e,fun j hj=> ?_⟩;have:=(uh HX).no xs[j] (List.mem_iff_getElem.2 ⟨j,by rw[List.length_take];omega,by rw[List.getElem_take]⟩);rw[this];decide
   have HF2:Hid (f xs[i]=false→∀x∈xs.take (i+1),f x=false):=fun e x hx=>by
    rw[List.take_succ_eq_append_getElem hi] at hx
    rcases List.mem_append.1 hx with h1|h1
    ·exact(uh HX).no x h1
    ·rw[List.mem_singleton] at h1;subst h1;exact e
   clear hr;generalize xs[i]=x at*;cases hfx:f x with
   |true=>
    have HI:=hide (uh HF1 hfx);rw[hfx] at CF;clear HF1 HF2 hfx
    go_wp2_with (first
     |(go_at_fn g;refine(uh CF).mono ?_;rintro e w1 ⟨rfl,hb1⟩;have HB1:=hide ((uh HX).below.trans (hb1.mono hsz));clear hb1)
     |fail)
    go_ret
    exact⟨by rw[uh HI];rfl,uh HB1⟩
   |false=>
    have HI:=hide (uh HF2 hfx);rw[hfx] at CF;clear HF1 HF2 hfx
    go_wp2_with (first
     |(go_at_fn g;refine(uh CF).mono ?_;rintro e w1 ⟨rfl,hb1⟩;have HX1:Hid (IxP W f xs (i+1) w1):=⟨(uh HX).below.trans (hb1.mono hsz),uh HI⟩;clear hb1)
     |fail)
    go_roundw
    case rel=>exact⟨i+1,by go_num,by omega,HX1⟩
    case measure=>simp only[intN];omega
  ·have hie:i=xs.length:=by omega
   subst hie;have t1:¬(xs.length:Int)<xs.length:=by omega
   have HN:Hid (xs.findIdx? f=none):=by
    show _=_;rw[List.findIdx?_eq_none_iff];exact fun x hx=>(uh HX).no x (by rw[List.take_length];exact hx)
   go_wp2_with fail
   go_ret
   exact⟨by rw[uh HN];rfl,(uh HX).below⟩
theorem any_idxP (xs:List Nat) (f:Nat→Bool):xs.any f=(xs.findIdx? f).isSome:=by
 cases h:xs.findIdx? f with
 |none=>
  rw[List.findIdx?_eq_none_iff] at h;rw[Option.isSome_none,List.any_eq_false];exact fun x hx=>by rw[h x hx];decide
 |some i=>
  rw[List.findIdx?_eq_some_iff_getElem] at h;obtain⟨h1,h2,-⟩:=h;rw[Option.isSome_some,List.any_eq_true];exact⟨_,List.getElem_mem h1,h2⟩
theorem containsPtr_any (xs:List Nat) (a:Option Addr) (cap b o g:Nat) (caps:Array Value) (f:Nat→Bool) (W:World) (hent:∀args w,(callFunc g args).run Tryz.prog w= .ok (.enter g args) w)
 (hcall:∀w,Below W.heap.size W w→∀x∈xs,Calls Tryz.prog g (#[.pointer (some ⟨x,0,none⟩)]++caps) w fun e w' =>e= .returned (.bool (f x))∧Below w.heap.size w w') (ha:0<xs.length→a=some ⟨b,o,none⟩∧b<W.heap.size∧RdP W b o xs) (hn:xs.length≤1073741824):
 Calls Tryz.prog 223 #[.slice a xs.length cap,.func (.func g) #[] caps] W fun e W' =>e= .returned (.bool (xs.any f))∧Below W.heap.size W W' :=by
 have C1:=indexPtr_any xs a cap b o g caps f W hent hcall ha hn;rw[any_idxP];cases h:xs.findIdx? f with
 |none=>
  rw[h] at C1;unfold idxV at C1;have C2:=hide C1;clear C1
  go_enter Tryz.func223,Tryz.ntmps223
  go_wp2_with (first
   |(go_at_call 265;refine(uh C2).mono ?_;rintro e w1 ⟨rfl,hb1⟩;have HB1:=hide hb1;clear hb1)
   |fail)
  go_ret
  exact⟨rfl,uh HB1⟩
 |some i=>
  rw[h] at C1;unfold idxV at C1;have C2:=hide C1;have t0:(0:Int)≤(i:Int):=by omega
  clear C1
  go_enter Tryz.func223,Tryz.ntmps223
  go_wp2_with (first
   |(go_at_call 265;refine(uh C2).mono ?_;rintro e w1 ⟨rfl,hb1⟩;have HB1:=hide hb1;clear hb1)
   |fail)
  go_ret
  exact⟨by simp,uh HB1⟩
structure HcM (W:World) (bb nm bt pb:Nat) (vp:Value) (first:Pl.Bs) (l:Ents) (rs:Pl.Bs→List Nat) (hc:Nat→Bool):Prop where
 book:BkR W bb nm bt pb vp first
 tgts:SMap W bt l
 of:∀name,∃a c b o,(mget l name).getD (.slice none 0 0)= .slice a (rs name).length c∧(0<(rs name).length→a=some ⟨b,o,none⟩∧b<W.heap.size∧RdP W b o (rs name))
 rules:∀name,∀r∈rs name,∃v1 v2 a n c,Row W r 273 [v1,v2,.slice a n c]∧hc r=decide (0<n)
 lens:∀name,(rs name).length≤1073741824
section
variable {W W' :World} {bb nm bt pb:Nat} {vp:Value} {first:Pl.Bs} {l:Ents} {rs:Pl.Bs→List Nat} {hc:Nat→Bool}
theorem HcM.later (h:HcM W bb nm bt pb vp first l rs hc) (hb:Below W.heap.size W W'):HcM W' bb nm bt pb vp first l rs hc:=by
 refine⟨Row.later h.book hb,h.tgts.later hb,fun name=> ?_,fun name r hr=> ?_,h.lens⟩
 ·obtain⟨a,c,b,o,h1,h2⟩:=h.of name
  exact⟨a,c,b,o,h1,fun e=>⟨(h2 e).1,Nat.lt_of_lt_of_le (h2 e).2.1 hb.size,(h2 e).2.2.below hb (h2 e).2.1⟩⟩
 ·obtain⟨v1,v2,a,n,c,h1,h2⟩:=h.rules name r hr
  exact⟨v1,v2,a,n,c,h1.later hb,h2⟩
theorem hasC_rule (r n c:Nat) (v1 v2:Value) (a:Option Addr) (W:World) (h:Row W r 273 [v1,v2,.slice a n c]):
 Calls Tryz.prog 224 #[.pointer (some ⟨r,0,none⟩)] W fun e W' =>e= .returned (.bool (decide (0<n)))∧W' =W:=by
 have c2:=h.cell? (i:=2) rfl;have hd:decide ((0:Int)<(n:Int))=decide (0<n):=by rw[decide_eq_decide];omega
 have HD:=hide hd;clear h hd
 go_enter Tryz.func224,Tryz.ntmps224
 go_wp2_with fail
 go_ret
 exact⟨by rw[←uh HD];first|rfl|simp,rfl⟩
theorem hasC_target (xb:Nat) (target:Pl.Bs) (h:HcM W bb nm bt pb vp first l rs hc) (hx:Row W xb 127 [.pointer (some ⟨bb,0,none⟩)]):
 Calls Tryz.prog 222 #[.string ⟨target.toArray⟩,.pointer (some ⟨xb,0,none⟩)] W fun e W' =>e= .returned (.bool ((rs target).any hc))∧Below W.heap.size W W' :=by
 obtain⟨a,c,b,o,hu,h2⟩:=h.of target;have c3:=Row.cell? (i:=3) h.book rfl;have c0:=hx.cell? (i:=0) rfl
 have CC:=hide (containsPtr_any (rs target) a c b o 224 #[] hc W (enters_of Tryz.func224 (by kernel_rfl) rfl) (fun w hw r hr=>by
  obtain⟨v1,v2,a',n,c',h3,h4⟩:=h.rules target r hr;rw[h4]
  exact(hasC_rule r n c' v1 v2 a' w (h3.later hw)).mono (fun e w' q=>⟨q.1,q.2▸Below.refl _ _⟩)) h2 (h.lens target))
 have HT:=hide h.tgts;have HU:=hide hu;clear h hx h2 hu
 go_enter Tryz.func222,Tryz.ntmps222
 go_wp2_with (first
  |(at_lookup;refine wpList_look_one _ rfl _ _ 139 rfl 9 138 Tryz.underlying139 Tryz.underlying9 (.slice none 0 0) (zeroRules _) bt l rfl (uh HT) target rfl _ (uh HU) ?_)
  |(go_at_call 223;refine(uh CC).mono ?_;rintro e w1 ⟨rfl,hb1⟩;have HB1:=hide hb1;clear hb1)
  |fail)
 go_ret
 exact⟨rfl,uh HB1⟩
theorem hasCommands_any (ts:List Pl.Bs) (a:Option Addr) (cap b o:Nat) (h:HcM W bb nm bt pb vp first l rs hc) (ha:0<ts.length→a=some ⟨b,o,none⟩∧b<W.heap.size∧RdN W b o ts) (hn:ts.length≤1073741824):
 Calls Tryz.prog 181 #[.pointer (some ⟨bb,0,none⟩),.slice a ts.length cap] W fun e W' =>e= .returned (.bool (ts.any fun t=>(rs t).any hc))∧Below W.heap.size W W' :=by
 have q1:=(Below.refl W.heap.size W).alloc (Nat.le_refl _) (.cells #[.pointer (some ⟨bb,0,none⟩)] 127);have rX:=Row.new W 127 [.pointer (some ⟨bb,0,none⟩)]
 have CC:=hide (containsFunc_any ts a cap b o 222 #[.pointer (some ⟨W.heap.size,0,none⟩)] (fun t=>(rs t).any hc) (W.alloc (.cells #[.pointer (some ⟨bb,0,none⟩)] 127)) (enters_of Tryz.func222 (by kernel_rfl) rfl) (fun w hw x _=>hasC_target W.heap.size x ((h.later q1).later hw) (rX.later hw)) (fun e=>⟨(ha e).1,Nat.lt_of_lt_of_le (ha e).2.1 q1.size,(ha e).2.2.below q1 (ha e).2.1⟩) hn)
 have HQ:=hide q1;clear h ha q1 rX
 go_enter Tryz.func181,Tryz.ntmps181
 go_wp2_with (first
  |(go_at_call 221;refine(uh CC).mono ?_;rintro e w1 ⟨rfl,hb1⟩;have HB1:=hide ((uh HQ).trans (hb1.mono (uh HQ).size));clear hb1)
  |fail)
 go_ret
 exact⟨rfl,uh HB1⟩
end
theorem rdExpand_any (rd bb nm bt pb:Nat) (vp v0 v2 v3 v4:Value) (first text:Pl.Bs) (L:NL) (W:World) (hr:Row W rd 186 [v0,.pointer (some ⟨bb,0,none⟩),v2,v3,v4]) (h:BkR W bb nm bt pb vp first) (hN:SMap W nm (nEnts L)) (hL:Short L) (hg:Glob W) (ht:text.length≤1073741824):
 Calls Tryz.prog 182 #[.pointer (some ⟨rd,0,none⟩),.string ⟨text.toArray⟩] W fun e W' =>∃r:Cp.Er,Cp.Exp (nOf L) (fun _=>none) [] 0 [] text r∧e= .returned (erV r)∧r.txt.length≤2000∧Below W.heap.size W W' :=by
 have c1:=hr.cell? (i:=1) rfl;have b0:=Row.cell? (i:=0) h rfl;have CE:=hide (expand_any nm (.func (.func 225) #[] #[]) L (fun _=>none) (fun _=>True) text W (fun c _ _=>noSigns c) (fun _ _=>trivial) hL hN hg ht);clear hr h hN hg
 go_enter Tryz.func182,Tryz.ntmps182
 go_wp2_with (first
  |(go_at_call 94;refine(uh CE).mono ?_;clear CE;rintro e w1 ⟨r,hx,rfl,hl1,hb1⟩;have HX:=hide hx;have HB1:=hide hb1;unfold erV;clear hx hb1)
  |fail)
 go_ret2
 exact⟨r,uh HX,rfl,hl1,uh HB1⟩
inductive Tag where
 |rd|book|names|tgts|phony|pats
 |ent (n:Pl.Bs)
 |rule (i:Nat)
 |cmds (i:Nat)
abbrev Foot:=Nat→Option Tag
def Foot.own (F:Foot) (v v' :Value) (t:Tag):Foot:=fun k=>if v'.ownBlock=some k then some t else if v.ownBlock=some k then none else F k
def Foot.put (F:Foot) (g:Nat) (t:Tag):Foot:=fun k=>if k=g then some t else F k
structure Rl where
 tg:List Pl.Bs
 nd:List Pl.Bs
 cs:List (Pl.Bs×Nat)
structure St where
 names:NL
 rules:List Rl
 pats:List Nat
 first:Pl.Bs
 of:Pl.Bs→List Nat
 ph:List Pl.Bs
 n:Nat
 inc:Nat
 opn:Nat
 tl:Nat
structure Ad where
 rd:Nat
 bx:Nat
 bb:Nat
 nm:Nat
 bt:Nat
 pb:Nat
def ptrV (rb:Nat→Nat) (i:Nat):Value:= .pointer (some ⟨rb i,0,none⟩)
def cmC (cs:List (Pl.Bs×Nat)):List Value:=cs.flatMap fun c=>[strV c.1,.int .i64 (c.2:Int)]
theorem cmC_snoc (cs:List (Pl.Bs×Nat)) (c:Pl.Bs×Nat):cmC (cs++[c])=cmC cs++[strV c.1,.int .i64 (c.2:Int)]:=by
 unfold cmC;rw[List.flatMap_append];simp
def PRow (W:World) (F:Foot) (t:Tag) (v:Value) (rb:Nat→Nat) (xs:List Nat):Prop:=W.ownsRow 0 265 1 v xs.length (xs.map (ptrV rb))∧∀k,v.ownBlock=some k→F k=some t
def CRow (W:World) (F:Foot) (t:Tag) (v:Value) (cs:List (Pl.Bs×Nat)):Prop:=W.ownsRow 0 202 2 v cs.length (cmC cs)∧∀k,v.ownBlock=some k→F k=some t
def SlF (W:World) (F:Foot) (v:Value) (x:List Pl.Bs):Prop:=(v= .slice none 0 0∧x=[])∨∃b o c,v= .slice (some ⟨b,o,none⟩) x.length c∧b<W.heap.size∧F b=none∧RdN W b o x∧(∃cs fz,W.heap[b]?=some (Obj.cells cs 9 fz))∧x.length≤c
def TyR (e:TypeId):Prop:=e=186∨e=142∨e=273∨e=265∨e=202
structure RdM (W:World) (F:Foot) (c:Ad) (rb:Nat→Nat) (s:St):Prop where
 ty:∀k t,F k=some t→k=c.nm∨k=c.bt∨k=c.pb∨∃cs e fz,W.heap[k]?=some (Obj.cells cs e fz)∧TyR e
 frd:F c.rd=some .rd
 fbb:F c.bb=some .book
 fnm:F c.nm=some .names
 fbt:F c.bt=some .tgts
 fpb:F c.pb=some .phony
 frb:∀i,i<s.rules.length→F (rb i)=some (.rule i)
 row:Row W c.rd 186 [.pointer (some ⟨c.bx,0,none⟩),.pointer (some ⟨c.bb,0,none⟩),.int .i64 (s.n:Int),.int .i64 (s.inc:Int),.int .i64 (s.opn:Int)]
 book:∃vp,BkR W c.bb c.nm c.bt c.pb vp s.first∧PRow W F .pats vp rb s.pats
 names:SMap W c.nm (nEnts s.names)
 phony:SMap W c.pb (mEnts s.ph)
 tgts:∃l,SMap W c.bt l∧l.length≤s.tl∧∀name,PRow W F (.ent name) ((mget l name).getD (.slice none 0 0)) rb (s.of name)
 rules:∀i r,s.rules[i]?=some r→∃vt vn vc,Row W (rb i) 273 [vt,vn,vc]∧SlF W F vt r.tg∧SlF W F vn r.nd∧CRow W F (.cmds i) vc r.cs
 pl:∀i∈s.pats,i<s.rules.length
 ol:∀name,∀i∈s.of name,i<s.rules.length
structure Fr (F F' :Foot) (W W' :World):Prop where
 tn:Tn (fun k=>F k≠none) W W'
 old:∀k,k<W.heap.size→F k=none→F' k=none
theorem Fr.refl (F:Foot) (W:World):Fr F F W W:=⟨Tn.refl _ _,fun _ _ e=>e⟩
theorem Fr.trans {F G H:Foot} {W X Y:World} (h:Fr F G W X) (k:Fr G H X Y):Fr F H W Y:=by
 refine⟨⟨k.tn.os.trans h.tn.os,k.tn.tape.trans h.tn.tape,k.tn.output.trans h.tn.output,Nat.le_trans h.tn.size k.tn.size,fun j hj hp=>(k.tn.block j (Nat.lt_of_lt_of_le hj h.tn.size) (fun e=>e (h.old j hj (Classical.not_not.1 hp)))).trans (h.tn.block j hj hp)⟩,fun j hj e=>k.old j (Nat.lt_of_lt_of_le hj h.tn.size) (h.old j hj e)⟩
theorem Fr.later {F:Foot} {W X:World} (hb:Below W.heap.size W X):Fr F F W X:=⟨Tn.later hb,fun _ _ e=>e⟩
section
variable {W X:World} {F G:Foot} {t:Tag} {v:Value} {rb:Nat→Nat} {xs:List Nat} {cs:List (Pl.Bs×Nat)} {ws:List Pl.Bs}
def Same (F G:Foot) (t:Tag) (W X:World):Prop:=∀k,F k=some t→X.heap[k]?=W.heap[k]?∧G k=some t
theorem PRow.same (h:PRow W F t v rb xs) (hs:Same F G t W X):PRow X G t v rb xs:=⟨own_same h.1 (fun k hk=>(hs k (h.2 k hk)).1),fun k hk=>(hs k (h.2 k hk)).2⟩
theorem CRow.same (h:CRow W F t v cs) (hs:Same F G t W X):CRow X G t v cs:=⟨own_same h.1 (fun k hk=>(hs k (h.2 k hk)).1),fun k hk=>(hs k (h.2 k hk)).2⟩
theorem SlF.same (h:SlF W F v ws) (hsz:W.heap.size≤X.heap.size) (hs:∀k,k<W.heap.size→F k=none→X.heap[k]?=W.heap[k]?∧G k=none):SlF X G v ws:=by
 rcases h with h|⟨b,o,c,h1,h2,h3,h4,h5⟩
 ·exact .inl h
 ·obtain⟨q1,q2⟩:=hs b h2 h3
  refine .inr ⟨b,o,c,h1,by omega,q2,fun j x hj=> ?_,by rw[q1];exact h5⟩;have:=h4 j x hj;unfold World.cell? at*;rw[q1];exact this
theorem SlF.sls (h:SlF W F v ws):SlS W v ws:=by
 rcases h with h|⟨b,o,c,h1,h2,h3,h4,h5⟩
 ·exact .inl h
 ·exact .inr ⟨b,o,c,h1,h2,h4⟩
theorem PRow.congr {rb' :Nat→Nat} (h:PRow W F t v rb xs) (he:∀i∈xs,rb' i=rb i):PRow W F t v rb' xs:=by
 refine⟨?_,h.2⟩;have:xs.map (ptrV rb')=xs.map (ptrV rb):=List.map_congr_left (fun i hi=>by unfold ptrV;rw[he i hi]);rw[this];exact h.1
end
structure Ch (p:Tag→Prop) (c:Ad) (F G:Foot) (W X:World):Prop where
 tn:Tn (fun k=>∃t,F k=some t∧p t) W X
 keep:∀k t,F k=some t→¬p t→G k=some t
 nil:∀k,k<W.heap.size→F k=none→G k=none
 ty:∀k t,G k=some t→k=c.nm∨k=c.bt∨k=c.pb∨∃cs e fz,X.heap[k]?=some (Obj.cells cs e fz)∧TyR e
section
variable {W X:World} {F G:Foot} {c:Ad} {rb:Nat→Nat} {s:St} {p:Tag→Prop}
theorem RdM.lt (h:RdM W F c rb s) {k:Nat} {t:Tag} (e:F k=some t):k<W.heap.size:=by
 rcases h.ty k t e with e|e|e|⟨cs,e,fz,h1,-⟩
 ·subst e;exact h.names.lt
 ·obtain⟨l,h1,-⟩:=h.tgts
  subst e;exact h1.lt
 ·subst e;exact h.phony.lt
 ·exact(Array.getElem?_eq_some_iff.1 h1).1
theorem Ch.fr (hc:Ch p c F G W X):Fr F G W X:=⟨hc.tn.mono (fun k e=>by obtain⟨t,h1,-⟩:=e;rw[h1];exact fun e=>by cases e),hc.nil⟩
theorem Ch.block (hc:Ch p c F G W X) (h:RdM W F c rb s) {k:Nat} {t:Tag} (e:F k=some t) (hp:¬p t):X.heap[k]?=W.heap[k]?:=
 hc.tn.block k (h.lt e) (fun q=>by obtain⟨t',q1,q2⟩:=q;rw[e] at q1;cases q1;exact hp q2)
theorem Ch.same (hc:Ch p c F G W X) (h:RdM W F c rb s) {t:Tag} (hp:¬p t):Same F G t W X:=fun k e=>⟨hc.block h e hp,hc.keep k t e hp⟩
theorem Ch.free (hc:Ch p c F G W X) {v:Value} {ws:List Pl.Bs} (h:SlF W F v ws):SlF X G v ws:=
 h.same hc.tn.size (fun k hk e=>⟨hc.tn.block k hk (fun q=>by obtain⟨t',q1,-⟩:=q;rw[e] at q1;cases q1),hc.nil k hk e⟩)
theorem Ch.rowC (hc:Ch p c F G W X) (h:RdM W F c rb s) (hp:¬p .rd):Row X c.rd 186 [.pointer (some ⟨c.bx,0,none⟩),.pointer (some ⟨c.bb,0,none⟩),.int .i64 (s.n:Int),.int .i64 (s.inc:Int),.int .i64 (s.opn:Int)]:=(hc.block h h.frd hp).trans h.row
theorem Ch.bookC (hc:Ch p c F G W X) (h:RdM W F c rb s) (hp:¬p .book) (hq:¬p .pats):∃vp,BkR X c.bb c.nm c.bt c.pb vp s.first∧PRow X G .pats vp rb s.pats:=by
 obtain⟨vp,h1,h2⟩:=h.book;exact⟨vp,(hc.block h h.fbb hp).trans h1,h2.same (hc.same h hq)⟩
theorem Ch.namesC (hc:Ch p c F G W X) (h:RdM W F c rb s) (hp:¬p .names):SMap X c.nm (nEnts s.names):=h.names.of_block (hc.block h h.fnm hp)
theorem Ch.phonyC (hc:Ch p c F G W X) (h:RdM W F c rb s) (hp:¬p .phony):SMap X c.pb (mEnts s.ph):=h.phony.of_block (hc.block h h.fpb hp)
theorem Ch.tgtsC (hc:Ch p c F G W X) (h:RdM W F c rb s) (hp:¬p .tgts) (hq:∀n,¬p (.ent n)):∃l,SMap X c.bt l∧l.length≤s.tl∧∀name,PRow X G (.ent name) ((mget l name).getD (.slice none 0 0)) rb (s.of name):=by
 obtain⟨l,h1,h2,h3⟩:=h.tgts;exact⟨l,h1.of_block (hc.block h h.fbt hp),h2,fun name=>(h3 name).same (hc.same h (hq name))⟩
theorem Ch.ruleC (hc:Ch p c F G W X) (h:RdM W F c rb s) {i:Nat} (hp:¬p (.rule i)) (hq:¬p (.cmds i)) {r:Rl} (hr:s.rules[i]?=some r):∃vt vn vc,Row X (rb i) 273 [vt,vn,vc]∧SlF X G vt r.tg∧SlF X G vn r.nd∧CRow X G (.cmds i) vc r.cs:=by
 obtain⟨vt,vn,vc,h1,h2,h3,h4⟩:=h.rules i r hr;exact⟨vt,vn,vc,(hc.block h (h.frb i (List.getElem?_eq_some_iff.1 hr).1) hp).trans h1,hc.free h2,hc.free h3,h4.same (hc.same h hq)⟩
theorem RdM.one (h:RdM W F c rb s) {x:Nat} {t0:Tag} (ht:Tn (fun k=>k=x) W X) (hx:F x=some t0) (hty:x=c.nm∨x=c.bt∨x=c.pb∨∃cs e fz,X.heap[x]?=some (Obj.cells cs e fz)∧TyR e):Ch (fun t=>t=t0) c F F W X:=by
 refine⟨ht.mono (fun k e=>⟨t0,by rw[e];exact hx,rfl⟩),fun _ _ e _=>e,fun _ _ e=>e,fun k t e=> ?_⟩
 by_cases hk:k=x
 ·rw[hk];exact hty
 ·rw[ht.block k (h.lt e) hk];exact h.ty k t e
theorem RdM.new (h:RdM W F c rb s) (hb:Below W.heap.size W X) {g:Nat} {t0:Tag} (hg:W.heap.size≤g) (hty:∃cs e fz,X.heap[g]?=some (Obj.cells cs e fz)∧TyR e):Ch (fun _=>False) c F (F.put g t0) W X:=by
 refine⟨Tn.later hb,fun k t e _=> ?_,fun k hk e=> ?_,fun k t e=> ?_⟩
 ·unfold Foot.put
  rw[if_neg (by have:=h.lt e;omega)];exact e
 ·unfold Foot.put
  rw[if_neg (by omega)];exact e
 ·unfold Foot.put at e
  split at e
  ·next hk=>rw[hk];exact .inr (.inr (.inr hty))
  ·rw[hb.block k (h.lt e)];exact h.ty k t e
theorem RdM.grow (h:RdM W F c rb s) {v v' :Value} {t0:Tag} {e:TypeId} {size n:Nat} {xs:List Value} (hown:X.ownsRow 0 e size v' n xs) (hg:W.grownBy X v.ownBlock) (hv:∀k,v.ownBlock=some k→F k=some t0) (hf:v'.ownBlock=v.ownBlock∨v'.ownBlock=some W.heap.size) (he:TyR e):
 Ch (fun t=>t=t0) c F (F.own v v' t0) W X∧∀k,v'.ownBlock=some k→(F.own v v' t0) k=some t0:=by
 refine⟨⟨Tn.grown hg (fun k e=>⟨t0,hv k e,rfl⟩),fun k t e hp=> ?_,fun k hk e=> ?_,fun k t q=> ?_⟩,fun k hk=>by unfold Foot.own;rw[if_pos hk]⟩
 ·have h1:v.ownBlock≠some k:=fun q=>by rw[hv k q] at e;cases e;exact hp rfl
  have h2:v'.ownBlock≠some k:=fun q=>by
   rcases hf with hf|hf
   ·exact h1 (hf▸q)
   ·rw[hf] at q;cases q;have:=h.lt e;omega
  unfold Foot.own;rw[if_neg h2,if_neg h1];exact e
 ·have h1:v.ownBlock≠some k:=fun q=>by rw[hv k q] at e;cases e
  have h2:v'.ownBlock≠some k:=fun q=>by
   rcases hf with hf|hf
   ·exact h1 (hf▸q)
   ·rw[hf] at q;cases q;omega
  unfold Foot.own;rw[if_neg h2,if_neg h1];exact e
 ·unfold Foot.own at q
  split at q
  ·next hk=>
   obtain⟨cur,fz,h3⟩:=own_type hown k hk;exact .inr (.inr (.inr ⟨cur,_,fz,h3,he⟩))
  ·split at q
   ·cases q
   ·next h1 h2=>rw[hg.block k (h.lt q) (fun e=>h2 e.symm)];exact h.ty k t q
theorem RdM.later (h:RdM W F c rb s) (hb:Below W.heap.size W X):RdM X F c rb s:=by
 have hc:Ch (fun _=>False) c F F W X:=⟨Tn.later hb,fun _ _ e _=>e,fun _ _ e=>e,fun k t e=>by rw[hb.block k (h.lt e)];exact h.ty k t e⟩;exact⟨hc.ty,h.frd,h.fbb,h.fnm,h.fbt,h.fpb,h.frb,hc.rowC h id,hc.bookC h id id,hc.namesC h id,hc.phonyC h id,hc.tgtsC h id (fun _=>id),fun i r hr=>hc.ruleC h id id hr,h.pl,h.ol⟩
end
end Go.Proofs.YtjelacjggijmfaaGreatDoor
