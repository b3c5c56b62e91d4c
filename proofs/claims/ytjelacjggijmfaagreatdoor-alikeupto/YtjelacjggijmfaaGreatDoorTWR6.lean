/-
  A plan is written: its text.
-/
import Derived.Test.YtjelacjggijmfaaGreatDoorTWR2
import Derived.Laws.CopyOwn
import Derived.Lib.SlBytesConst
import Derived.Lib.AppendStr
set_option maxHeartbeats 2000000
set_option maxRecDepth 100000
namespace Go.Proofs.YtjelacjggijmfaaGreatDoor
open Go.RowKit Go.MapKept Go.ChangeMaps Go.Maps
def WrX (W:World) (B wb nb:Nat) (vs vc:Value) (q:Cp.Wr) (wr:World):Prop:=∃vs' vc',WrM wr B wb nb q vs' vc' ∧WrT wb nb vs vc vs' vc' W wr
theorem writeStale_any (B L wb nb fb:Nat) (p:Cp.Wr) (vs vc:Value) (fl:Flags) (name stem:Pl.Bs) (ph:Bool) (needs:List Pl.Bs) (a:Option Addr) (cap b o:Nat) (cmds:Value) (W:World) (h:WrM W B wb nb p vs vc) (hB:B≤W.heap.size) (hL1:L≤wb) (hL2:L≤nb)
 (hf:SMap W fb (flEnts fl)) (hfB:fb<B) (hfn:fb≠nb) (hfl:∀x∈fl,x.2<2147483648)
 (ha:0<needs.length→a=some ⟨b,o,none⟩∧b<L∧RdN W b o needs) (hn:needs.length≤1000) (hsl:p.strs.length≤1000000) (hcl:p.code.length≤1000000000):
 Calls Tryz.prog 97 #[.pointer (some ⟨wb,0,none⟩),nodeV name ph (.slice a needs.length cap) cmds stem,.map (some fb)] W fun e W' =>e= .returned (.tuple #[])∧WrX W B wb nb vs vc (staleW fl p ph name needs) W' :=by
 have zi:∀w,(zeroValue 3).run Tryz.prog w= .ok (.int .i64 0) w:=fun w=>by kernel_rfl
 have HB0:=hide ((Below.refl W.heap.size W).alloc (Nat.le_refl _) (.cells #[strV name,.bool ph,.slice a needs.length cap,cmds,strV stem] 197));have HM:=hide (h.later (uh HB0));have HT:=hide (WrT.later (wb:=wb) (nb:=nb) (vs:=vs) (vc:=vc) (uh HB0));have hB1:=Nat.le_trans hB (uh HB0).size;have HF:=hide hf;have HFL:=hide hfl;have HA:=hide ha;have H0:=hide h
 clear h ha hfl hf;cases ph with
 |true=>
  have e0:staleW fl p true name needs=addW p 1 [1]:=rfl;rw[e0];have C1:=hide (wrAdds (uh HM) hB1 (by omega) 1 1 rfl (by decide) [1] (by simp) (by simp) 1 rfl (W.heap.size+1) (World.size_alloc _ _).symm #[.int .i64 1] rfl);unfold nodeV strV at*
  go_enter Tryz.func97,Tryz.ntmps97
  go_wp2_with (first
   |(go_at_call 100;refine(uh C1).mono ?_;rintro e w1 ⟨rfl,vc1,hm1,ht1⟩)
   |fail)
  refine bodyPost_ret (results_none rfl _ _ _) rfl ?_;exact⟨rfl,_,_,hm1,(uh HT).trans ht1⟩
 |false=>
  have e0:staleW fl p false name needs=needs.foldl (staleStep fl (p.num name)) (addW (p.str name) 2 [p.num name]):=rfl;rw[e0];have HR0:=hide (Row.new W 197 [strV name,.bool false,.slice a needs.length cap,cmds,strV stem]);have hnl:=num_le p name;have C1:=hide (wrString_any B wb nb p vs vc name _ (uh HM) hB1 (by omega))
  have hcl1:(p.str name).code.length≤1000000000:=by rw[str_code];exact hcl
  have hsl1:(p.str name).strs.length≤1000001:=by have:=str_len p name;omega
  have hsl2:=staleFold_len fl (p.num name);unfold nodeV strV at*
  go_enter Tryz.func97,Tryz.ntmps97
  go_wp2_with (first
   |(go_at_call 101;refine(uh C1).mono ?_;rintro e w1 ⟨rfl,vs1,hm1,ht1⟩;have hB2:=Nat.le_trans hB1 ht1.tn.size;have HM1:=hide hm1;have HT1:=hide ((uh HT).trans ht1);have HR1:=hide ((uh HR0).wrt (uh HM) ht1 (by decide) (by decide) (by decide));clear hm1 ht1)
   |(go_at_call 100;refine(wrAdds (uh HM1) hB2 (by omega) 2 2 rfl (by decide) [p.num name] (by intro x hx;rw[List.mem_singleton] at hx;omega) (by simp) 1 rfl _ rfl #[.int .i64 (p.num name)] rfl).mono ?_;rintro e w2 ⟨rfl,vc2,hm2,ht2⟩;have c2:=((uh HR1).wrt (uh HM1) ht2 (by decide) (by decide) (by decide)).cell? (i:=2) rfl;have HX0:Hid (WrX W B wb nb vs vc (addW (p.str name) 2 [p.num name]) w2):=⟨_,_,hm2,(uh HT1).trans ht2⟩;clear hm2 ht2)
   |fail)
  have hc2:=addW_len (p.str name) 2 [p.num name];have hs2:=addW_strs (p.str name) 2 [p.num name];generalize hqq:addW (p.str name) 2 [p.num name]=q at*;have HQQ:=hide hqq;clear hqq
  go_loopw [25] (fun iv wr=>∃i:Nat,iv= .int .i64 i∧i≤needs.length∧Hid (WrX W B wb nb vs vc ((needs.take i).foldl (staleStep fl (p.num name)) q) wr)) (fun iv _=>needs.length-intN iv)
  case atStart=>exact⟨0,rfl,by omega,HX0⟩
  case round=>
   clear HX0 c2;obtain⟨i,rfl,hi2,HX⟩:=hrel
   by_cases hi:i<needs.length
   ·have t1:(i:Int)<needs.length:=by omega
    have t0:(0:Int)≤(i:Int):=by omega
    obtain⟨vs3,vc3,hm3,ht3⟩:=uh HX;obtain⟨rfl,hbL,hrd⟩:=uh HA (by omega);have cn:=hrd.below ((WrT.below (uh H0) ht3 hL1 hL2)) hbL i needs[i] (List.getElem?_eq_getElem hi);have HF3:=hide ((uh HF).wrt (uh H0) ht3 hfB hfn);have hl3:=hsl2 (needs.take i) q;rw[List.length_take,Nat.min_eq_left hi2,hs2] at hl3
    have htk:(needs.take (i+1)).foldl (staleStep fl (p.num name)) q=staleStep fl (p.num name) ((needs.take i).foldl (staleStep fl (p.num name)) q) needs[i]:=by
     rw[List.take_add_one,List.foldl_append,List.getElem?_eq_getElem hi];rfl
    have hB3:=Nat.le_trans hB ht3.tn.size;have HTK:=hide htk;have HM3:=hide hm3;have HT3:=hide ht3;clear hm3 ht3 htk hrd;generalize hq3:(needs.take i).foldl (staleStep fl (p.num name)) q=q3 at*;generalize hx:needs[i]=x at*;have hfx:=flagOf_lt x 2147483648 (by decide) fl (uh HFL);have hmx:=mget_fl x fl;unfold strV at cn;have hc4:=addW_len q3 4 [flagOf fl x]
    have hc5:=addW_len (addW q3 4 [flagOf fl x]) 5 [];have hs4:=addW_strs q3 4 [flagOf fl x];have hs5:=addW_strs (addW q3 4 [flagOf fl x]) 5 [];have hnx:=num_le (addW (addW q3 4 [flagOf fl x]) 5 []) x;have hc6:=str_code (addW (addW q3 4 [flagOf fl x]) 5 []) x;have hc7:=addW_len ((addW (addW q3 4 [flagOf fl x]) 5 []).str x) 3 [p.num name,(addW (addW q3 4 [flagOf fl x]) 5 []).num x]
    rw[hc6] at hc7;rw[hs5,hs4] at hnx;have hnx3:(addW (addW q3 4 [flagOf fl x]) 5 []).num x<2147483648:=by omega
    have hnm3:p.num name<2147483648:=by omega
    have hl4:q3.code.length≤1073741824:=by omega
    have hl5:(addW q3 4 [flagOf fl x]).code.length≤1073741824:=by omega
    have hl6:(addW (addW q3 4 [flagOf fl x]) 5 []).strs.length≤1048576:=by rw[hs5,hs4];omega
    have hl7:((addW (addW q3 4 [flagOf fl x]) 5 []).str x).code.length≤1073741824:=by rw[hc6];omega
    have hl8:(addW ((addW (addW q3 4 [flagOf fl x]) 5 []).str x) 3 [p.num name,(addW (addW q3 4 [flagOf fl x]) 5 []).num x]).code.length≤1073741824:=by omega
    clear hc4 hc5 hs4 hs5 hc6 hc7 hnx hl3;have C4:=hide (wrAdds (uh HM3) hB3 hl4 4 4 rfl (by decide) [flagOf fl x] (by intro y hy;rw[List.mem_singleton] at hy;omega) (by simp) 1 rfl _ rfl #[.int .i64 (flagOf fl x)] rfl)
    go_wp2_with (first
     |(at_lookup;refine wpList_look_one _ rfl _ _ 179 rfl 9 3 Tryz.underlying179 Tryz.underlying9 (.int .i64 0) (zi _) fb (flEnts fl) rfl (uh HF3) x rfl _ hmx ?_)
     |(go_at_call 100;refine(uh C4).mono ?_;clear C4;rintro e w4 ⟨rfl,vc4,hm4,ht4⟩;have hB4:=Nat.le_trans hB3 ht4.tn.size;have C5:=hide (wrAdd0 hm4 hB4 hl5 5 5 rfl (by decide));have HT4:=hide ((uh HT3).trans ht4);clear hm4 ht4)
     |(go_at_call 100;refine(uh C5).mono ?_;clear C5;rintro e w5 ⟨rfl,vc5,hm5,ht5⟩;have hB5:=Nat.le_trans hB4 ht5.tn.size;have C6:=hide (wrString_any B wb nb _ _ _ x _ hm5 hB5 hl6);have HT5:=hide ((uh HT4).trans ht5);clear hm5 ht5)
     |(go_at_call 101;refine(uh C6).mono ?_;clear C6;rintro e w6 ⟨rfl,vs6,hm6,ht6⟩;have hB6:=Nat.le_trans hB5 ht6.tn.size;have C7:=hide (wrAdds hm6 hB6 hl7 3 3 rfl (by decide) [p.num name,(addW (addW q3 4 [flagOf fl x]) 5 []).num x] (by intro y hy;rw[List.mem_cons,List.mem_singleton] at hy;omega) (by simp) 2 rfl _ rfl #[.int .i64 (p.num name),.int .i64 ((addW (addW q3 4 [flagOf fl x]) 5 []).num x)] rfl);have HT6:=hide ((uh HT5).trans ht6);clear hm6 ht6)
     |(go_at_call 100;refine(uh C7).mono ?_;clear C7;rintro e w7 ⟨rfl,vc7,hm7,ht7⟩;have hB7:=Nat.le_trans hB6 ht7.tn.size;have C8:=hide (wrAdd0 hm7 hB7 hl8 5 5 rfl (by decide));have HT7:=hide ((uh HT6).trans ht7);clear hm7 ht7)
     |(go_at_call 100;refine(uh C8).mono ?_;clear C8;rintro e w8 ⟨rfl,vc8,hm8,ht8⟩;have HX8:Hid (WrX W B wb nb vs vc (staleStep fl (p.num name) q3 x) w8):=⟨_,_,hm8,(uh HT7).trans ht8⟩;clear hm8 ht8)
     |fail)
    go_roundw
    case rel=>exact⟨i+1,by go_num,by omega,by rw[uh HTK];exact HX8⟩
    case measure=>simp only[intN];omega
   ·have hie:i=needs.length:=by omega
    subst hie;have t1:¬(needs.length:Int)<needs.length:=by omega
    rw[List.take_length] at HX
    go_wp2_with fail
    go_end0
    exact⟨rfl,by rw[uh HQQ];exact uh HX⟩
def giveStep (q:Cp.Wr) (c:Pl.Bs):Cp.Wr:=addW (q.str c) 7 [q.num c]
def blockW (p:Cp.Wr) (cmds:List Pl.Bs) (i:Nat):Cp.Wr:=addW (cmds.foldl giveStep p) 8 [i]
theorem giveFold_len:∀(cmds:List Pl.Bs) (q:Cp.Wr),(cmds.foldl giveStep q).strs.length≤q.strs.length+cmds.length∧(cmds.foldl giveStep q).code.length≤q.code.length+5*cmds.length
 |[],q=>⟨Nat.le_refl _,Nat.le_refl _⟩
 |c::r,q=>by
  have ih:=giveFold_len r (giveStep q c);have h1:=addW_len (q.str c) 7 [q.num c];have h2:=addW_strs (q.str c) 7 [q.num c];have h3:=str_len q c;rw[str_code] at h1;rw[List.foldl_cons,List.length_cons];unfold giveStep at*;rw[h2] at ih;omega
theorem blockW_len (p:Cp.Wr) (cmds:List Pl.Bs) (i:Nat):(blockW p cmds i).strs.length≤p.strs.length+cmds.length∧(blockW p cmds i).code.length≤p.code.length+5*cmds.length+5:=by
 have h1:=giveFold_len cmds p;have h2:=addW_len (cmds.foldl giveStep p) 8 [i];unfold blockW;rw[addW_strs];omega
theorem Row.wrx {W wr:World} {B wb nb b:Nat} {p q:Cp.Wr} {vs vc:Value} {t:TypeId} {us:List Value} (h:Row W b t us) (hm:WrM W B wb nb p vs vc) (hx:WrX W B wb nb vs vc q wr) (h1:t≠281) (h2:t≠9) (h3:t≠5):Row wr b t us:=by
 obtain⟨vs',vc',_,ht⟩:=hx;exact h.wrt hm ht h1 h2 h3
theorem writeBlock_any (B L wb nb sb xb ib i:Nat) (p:Cp.Wr) (vs vc n1 n2 n3 n4 n5:Value) (cmds:List Pl.Bs) (ac:Option Addr) (cc cb co:Nat) (W:World) (h:WrM W B wb nb p vs vc) (hB:B≤W.heap.size) (hL1:L≤wb) (hL2:L≤nb)
 (hs:Row W sb 206 [n1,n2,n3,n4,n5,.slice ac cmds.length cc]) (hx:Row W xb 207 [.pointer (some ⟨wb,0,none⟩)]) (hi:Row W ib 3 [.int .i64 i]) (hil:i<2147483648)
 (ha:0<cmds.length→ac=some ⟨cb,co,none⟩∧cb<L∧RdN W cb co cmds) (hn:cmds.length≤1000) (hsl:p.strs.length≤1000000) (hcl:p.code.length≤1000000000):
 Calls Tryz.prog 99 #[.pointer (some ⟨sb,0,none⟩),.pointer (some ⟨xb,0,none⟩),.pointer (some ⟨ib,0,none⟩)] W fun e W' =>e= .returned (.tuple #[])∧WrX W B wb nb vs vc (blockW p cmds i) W' :=by
 have c5:=hs.cell? (i:=5) rfl;have HX0:Hid (WrX W B wb nb vs vc p W):=⟨_,_,h,WrT.refl _⟩;have HRX:=hide hx;have HRI:=hide hi;have HA:=hide ha;have H0:=hide h;have hfl:=giveFold_len;clear h ha hx hi hs
 go_enter Tryz.func99,Tryz.ntmps99
 go_wp2_with fail
 go_loopw [8] (fun iv wr=>∃k:Nat,iv= .int .i64 k∧k≤cmds.length∧Hid (WrX W B wb nb vs vc ((cmds.take k).foldl giveStep p) wr)) (fun iv _=>cmds.length-intN iv)
 case atStart=>exact⟨0,rfl,by omega,HX0⟩
 case round=>
  clear HX0 c5;obtain⟨k,rfl,hk2,HX⟩:=hrel;have cx:=((uh HRX).wrx (uh H0) (uh HX) (by decide) (by decide) (by decide)).cell? (i:=0) rfl;have hl3:=hfl (cmds.take k) p;rw[List.length_take,Nat.min_eq_left hk2] at hl3
  by_cases hk:k<cmds.length
  ·have t1:(k:Int)<cmds.length:=by omega
   have t0:(0:Int)≤(k:Int):=by omega
   obtain⟨vs3,vc3,hm3,ht3⟩:=uh HX;obtain⟨rfl,hbL,hrd⟩:=uh HA (by omega);have cn:=hrd.below ((WrT.below (uh H0) ht3 hL1 hL2)) hbL k cmds[k] (List.getElem?_eq_getElem hk)
   have htk:(cmds.take (k+1)).foldl giveStep p=giveStep ((cmds.take k).foldl giveStep p) cmds[k]:=by
    rw[List.take_add_one,List.foldl_append,List.getElem?_eq_getElem hk];rfl
   have hB3:=Nat.le_trans hB ht3.tn.size;have HTK:=hide htk;have HRX3:=hide ((uh HRX).wrt (uh H0) ht3 (by decide) (by decide) (by decide));generalize hq3:(cmds.take k).foldl giveStep p=q3 at*;generalize hxx:cmds[k]=x at*;have hb9:=(Below.refl wr.heap.size wr).drew;have HM3:=hide (hm3.later hb9);have HT3:=hide (ht3.trans (WrT.later hb9));have hnx:=num_le q3 x
   have hc6:=str_code q3 x;have hnx3:q3.num x<2147483648:=by omega
   have hl6:q3.strs.length≤1048576:=by omega
   have hl7:(q3.str x).code.length≤1073741824:=by rw[hc6];omega
   unfold strV at cn;have C6:=hide (wrString_any B wb nb q3 vs3 vc3 x wr.drew (uh HM3) hB3 hl6);clear hm3 ht3 htk hrd hc6 hnx hl3 hb9
   go_wp2_with fail
   go_region_held3 (fun w' =>w'.cell? ⟨xb,0,none⟩=some (.pointer (some ⟨wb,0,none⟩))) (go_keep) (first
    |(go_at_call 101;refine(uh C6).mono ?_;clear C6;rintro e w6 ⟨rfl,vs6,hm6,ht6⟩;have hB6:=Nat.le_trans hB3 ht6.tn.size;have C7:=hide (wrAdds hm6 hB6 hl7 7 7 rfl (by decide) [q3.num x] (by intro y hy;rw[List.mem_singleton] at hy;omega) (by simp) 1 rfl _ rfl #[.int .i64 (q3.num x)] rfl);have HT6:=hide ((uh HT3).trans ht6);have cx6:=((uh HRX3).drew.wrt (uh HM3) ht6 (by decide) (by decide) (by decide)).cell? (i:=0) rfl;clear hm6 ht6)
    |(go_at_call 100;refine(uh C7).mono ?_;clear C7;rintro e w7 ⟨rfl,vc7,hm7,ht7⟩;have HX7:Hid (WrX W B wb nb vs vc (giveStep q3 x) w7):=⟨_,_,hm7,(uh HT6).trans ht7⟩;have cx7:=((uh HRX).wrx (uh H0) (uh HX7) (by decide) (by decide) (by decide)).cell? (i:=0) rfl;clear hm7 ht7))
   all_goals go_wp2_with fail
   all_goals go_roundw
   case rel=>exact⟨k+1,by go_num,by omega,by rw[uh HTK];exact HX7⟩
   case measure=>simp only[intN];omega
  ·have hie:k=cmds.length:=by omega
   subst hie;have t1:¬(cmds.length:Int)<cmds.length:=by omega
   rw[List.take_length] at HX hl3;have ci:=((uh HRI).wrx (uh H0) (uh HX) (by decide) (by decide) (by decide)).cell? (i:=0) rfl;obtain⟨vs3,vc3,hm3,ht3⟩:=uh HX;have hB3:=Nat.le_trans hB ht3.tn.size;have C7:=hide (wrAdds hm3 hB3 (by omega) 8 8 rfl (by decide) [i] (by intro y hy;rw[List.mem_singleton] at hy;omega) (by simp) 1 rfl _ rfl #[.int .i64 i] rfl);have HT3:=hide ht3
   clear hm3 ht3
   go_wp2_with (first
    |(go_at_call 100;refine(uh C7).mono ?_;clear C7;rintro e w7 ⟨rfl,vc7,hm7,ht7⟩;have HX7:Hid (WrX W B wb nb vs vc (blockW p cmds i) w7):=⟨_,_,hm7,(uh HT3).trans ht7⟩;clear hm7 ht7)
    |fail)
   go_end0
   exact⟨rfl,uh HX7⟩
theorem own_over {w:World} {B e n g cap off:Nat} {xs cs:List Value} {cur:Array Value} (h2:B≤g) (h3:w.heap[g]?=some (.cells cur e (0,0))) (h4:n≤cap) (h5:cap≤maxLen) (h6:cur.size=cap*1) (h7:cur.toList.take (n*1)=xs) (hle:off+cs.length≤n):
 (w.setRow g (cur.toList.take off++(cs++cur.toList.drop (off+cs.length))).toArray).ownsRow B e 1 (.slice (some ⟨g,0,none⟩) n cap) n (xs.take off++(cs++xs.drop (off+cs.length))):=by
 rw[Nat.mul_one] at h6 h7;have hcl:cur.toList.length=cap:=by rw[Array.length_toList];exact h6
 have hxl:xs.length=n:=by rw[←h7,List.length_take];omega
 refine⟨by simp;omega,.inr ⟨g,cap,_,rfl,h2,setRow_heap w g _ _ e _ h3,h4,h5,by simp;omega,?_⟩⟩;subst h7;rw[Nat.mul_one,List.take_append,List.take_append,List.take_take,List.take_take,List.length_take,Nat.min_eq_left (by omega:off≤cur.toList.length),Nat.min_comm n off,Nat.min_eq_left (by omega:off≤n)];rw[List.drop_take,List.take_of_length_le (l:=cs) (by omega)]
 rw[show n-off-cs.length=n-(off+cs.length) by omega]
theorem step_copy_over {P:Program} {ops:Array Oper} {o:Oper} {a:Act} {w:World} {K:Act→World→Prop} {Q:Exit→Act→World→Prop} {E:Prop} (hgd:o.guard=none) (d s:Operand) (dT sT:TypeId)
 (ho:o.op= .call {callee:= .builtin .copy,args:= #[d,s],argTypes:= #[dT,sT]}) (elem:TypeId) (hu:P.underlying dT=some (.slice elem)) (hsz:(P.info? elem).map (·.size)=some 1)
 (B g cap n:Nat) (xs:List Value) (hown:w.ownsRow B elem 1 (.slice (some ⟨g,0,none⟩) n cap) n xs) (off dLen dCap:Nat) (hd:a.eval d= .slice (some ⟨g,off,none⟩) dLen dCap) (ad:Addr) (sLen sCap:Nat) (hs:a.eval s= .slice (some ad) sLen sCap)
 (cs:List Value) (hn:cs.length=sLen) (hdl:sLen≤dLen) (hle:off+sLen≤n) (hsrc:∀j v,cs[j]?=some v→w.cell? (ad.add j)=some v) (h1:∀v∈cs,v.oneCell' =true)
 (h:∀w',w'.ownsRow B elem 1 (.slice (some ⟨g,0,none⟩) n cap) n (xs.take off++(cs++xs.drop (off+cs.length)))→Tn (fun k=>k=g) w w' →K (a.put o.dst (goInt cs.length)) w'):
 if Region.wanted o (yielded ops a.tmps)=true then Oper.wp P o a w K Q else E:=by
 have hw:Region.wanted o (yielded ops a.tmps)=true:=by simp[Region.wanted,hgd]
 rw[if_pos hw]
 rcases hown.2 with⟨q1,_⟩|⟨g',cap',cur,q1,h2,h3,h4,h5,h6,h7⟩
 ·cases q1
 ·cases q1
  subst hn;have hrun:=run_copy_row (P:=P) w dT sT o.type elem g off dLen dCap ad cs.length sCap cur elem cs hu hsz h3 (Nat.min_eq_left hdl).symm hsrc (by omega) h1;rw[List.append_assoc] at hrun;unfold Oper.wp;simp[execOp,ho,resolve,invoke,builtin,hd,hs,hrun,Result.andThen];refine h _ (own_over h2 h3 h4 h5 h6 h7 hle) ⟨rfl,rfl,rfl,by simp[World.setRow],fun k _ hk=>setRow_other w g k _ hk⟩
theorem addAt_ge (p:Cp.Wr) (op:Nat) (os:List Nat):∀i,p.code.length≤(addAt p op os i).code.length
 |0=>by show _≤(p.code++_).length;simp
 |i+1=>by
  have:=addAt_ge p op os i;show _≤((addAt p op os i).code++Cp.beB _ _).length;rw[List.length_append];omega
theorem addW_ge (p:Cp.Wr) (op:Nat) (os:List Nat):p.code.length≤(addW p op os).code.length:=addAt_ge p op os 2
theorem giveFold_ge:∀(cmds:List Pl.Bs) (q:Cp.Wr),q.code.length≤(cmds.foldl giveStep q).code.length
 |[],_=>Nat.le_refl _
 |c::r,q=>by
  have ih:=giveFold_ge r (giveStep q c);have h1:=addW_ge (q.str c) 7 [q.num c];rw[str_code] at h1;rw[List.foldl_cons];exact Nat.le_trans h1 ih
theorem blockW_ge (p:Cp.Wr) (cmds:List Pl.Bs) (i:Nat):p.code.length≤(blockW p cmds i).code.length:=Nat.le_trans (giveFold_ge cmds p) (addW_ge _ 8 [i])
theorem skip_len (p:Cp.Wr):(addW p 6 []).code.length=p.code.length+1+2:=by
 show(((p.code++[UInt8.ofNat 6])++Cp.beB 0 2)++Cp.beB 0 0).length=_;simp only[List.length_append,beB_len _ _ (Nat.le_refl 2),beB_len _ _ (Nat.zero_le 2),List.length_singleton]
def fixW (q:Cp.Wr) (d m:Nat):Cp.Wr:=⟨q.strs,q.code.take d++(Cp.beB m 2++q.code.drop (d+2)),q.failed||Cp.big m 2⟩
def skipW (p:Cp.Wr) (cmds:List Pl.Bs) (i:Nat):Cp.Wr:=fixW (blockW (addW p 6 []) cmds i) (p.code.length+1) ((blockW (addW p 6 []) cmds i).code.length-(p.code.length+1+2))
theorem bytes_over (xs cs:Pl.Bs) (d:Nat) (hc:cs.length=2):(Lib.byteCells xs).take d++(Lib.byteCells cs++(Lib.byteCells xs).drop (d+(Lib.byteCells cs).length))=Lib.byteCells (xs.take d++(cs++xs.drop (d+2))):=by
 rw[Lib.byteCells_length,hc];unfold Lib.byteCells;simp only[List.map_append,List.map_take,List.map_drop]
theorem over_len (xs cs:Pl.Bs) (d:Nat) (hc:cs.length=2) (hd:d+2≤xs.length):(xs.take d++(cs++xs.drop (d+2))).length=xs.length:=by
 simp only[List.length_append,List.length_take,List.length_drop];omega
theorem skipW_len (p:Cp.Wr) (cmds:List Pl.Bs) (i:Nat):(skipW p cmds i).strs.length≤p.strs.length+cmds.length∧(skipW p cmds i).code.length≤p.code.length+5*cmds.length+8:=by
 have h1:=blockW_len (addW p 6 []) cmds i;have h2:=skip_len p;have h3:=blockW_ge (addW p 6 []) cmds i;rw[addW_strs] at h1;refine⟨h1.1,?_⟩;show((blockW (addW p 6 []) cmds i).code.take (p.code.length+1)++(Cp.beB _ 2++(blockW (addW p 6 []) cmds i).code.drop (p.code.length+1+2))).length≤_;rw[over_len _ _ _ (beB_len _ _ (Nat.le_refl 2)) (by omega)];omega
theorem WrM.over {W W3 W4:World} {B wb nb g n cap d m:Nat} {q:Cp.Wr} {vs:Value} (h:WrM W B wb nb q vs (.slice (some ⟨g,0,none⟩) n cap)) (hn:q.code.length=n) (hd:d+2≤n) (ht:Tn (fun k=>k=wb) W W3) (hr:Row W3 wb 281 [.map (some nb),vs,.slice (some ⟨g,0,none⟩) n cap,.bool (q.failed||Cp.big m 2)])
 (hown:W4.ownsRow B 5 1 (.slice (some ⟨g,0,none⟩) n cap) n ((Lib.byteCells q.code).take d++(Lib.byteCells (Cp.beB m 2)++(Lib.byteCells q.code).drop (d+(Lib.byteCells (Cp.beB m 2)).length)))) (ht4:Tn (fun k=>k=g) W3 W4):
 Row W4 wb 281 [.map (some nb),vs,.slice (some ⟨g,0,none⟩) n cap,.bool (q.failed||Cp.big m 2)]∧WrM W4 B wb nb (fixW q d m) vs (.slice (some ⟨g,0,none⟩) n cap)∧WrT wb nb vs (.slice (some ⟨g,0,none⟩) n cap) vs (.slice (some ⟨g,0,none⟩) n cap) W W4:=by
 have hb2:=beB_len m 2 (Nat.le_refl 2);have hgB:=(h.code.lt g rfl).1;have hwB:=h.wB;have hr4:=hr.tn ht4 (by omega);rw[bytes_over _ _ _ hb2] at hown;subst hn;have hl:=over_len q.code (Cp.beB m 2) d hb2 hd;refine⟨hr4,h.codeTo hr4 ?_ ((ht.mono (fun k e=> .inl e)).trans (ht4.mono (fun k e=> .inr (by subst e;rfl)))) (fun _ e=> .inl e)⟩;rw[hl];exact hown
def blockV (sb xb ib:Nat):Value:= .func (.func 99) #[] #[.pointer (some ⟨sb,0,none⟩),.pointer (some ⟨xb,0,none⟩),.pointer (some ⟨ib,0,none⟩)]
theorem addSkip_any (B L wb nb sb xb ib i:Nat) (p:Cp.Wr) (vs vc n1 n2 n3 n4 n5:Value) (cmds:List Pl.Bs) (ac:Option Addr) (cc cb co:Nat) (W:World) (h:WrM W B wb nb p vs vc) (hB:B≤W.heap.size) (hL1:L≤wb) (hL2:L≤nb)
 (hs:Row W sb 206 [n1,n2,n3,n4,n5,.slice ac cmds.length cc]) (hx:Row W xb 207 [.pointer (some ⟨wb,0,none⟩)]) (hi:Row W ib 3 [.int .i64 i]) (hil:i<2147483648)
 (ha:0<cmds.length→ac=some ⟨cb,co,none⟩∧cb<L∧RdN W cb co cmds) (hn:cmds.length≤1000) (hsl:p.strs.length≤1000000) (hcl:p.code.length≤900000000):
 Calls Tryz.prog 98 #[.pointer (some ⟨wb,0,none⟩),blockV sb xb ib] W fun e W' =>e= .returned (.tuple #[])∧WrX W B wb nb vs vc (skipW p cmds i) W' :=by
 have hcu:(Tryz.prog.info? 5).map (·.size)=some 1:=by kernel_rfl
 have C1:=hide (wrAdd0 h hB (by omega) 6 6 rfl (by decide));have hk1:=skip_len p;have hk2:=blockW_len (addW p 6 []) cmds i;have hk3:=blockW_ge (addW p 6 []) cmds i;have hst:=addW_strs p 6 []
 have CB:=hide (fun (w1:World) (vc1:Value) (hm1:WrM w1 B wb nb (addW p 6 []) vs vc1) (ht1:WrT wb nb vs vc vs vc1 W w1)=>writeBlock_any B L wb nb sb xb ib i (addW p 6 []) vs vc1 n1 n2 n3 n4 n5 cmds ac cc cb co w1 hm1 (Nat.le_trans hB ht1.tn.size) hL1 hL2 (hs.wrt h ht1 (by decide) (by decide) (by decide)) (hx.wrt h ht1 (by decide) (by decide) (by decide)) (hi.wrt h ht1 (by decide) (by decide) (by decide)) hil (fun e=>⟨(ha e).1,(ha e).2.1,(ha e).2.2.below (WrT.below h ht1 hL1 hL2) (ha e).2.1⟩) hn (by rw[hst];exact hsl) (by omega))
 have hwB:=h.wB;clear h hs hx hi ha;obtain⟨d,hd⟩:∃d,d=p.code.length+1:=⟨_,rfl⟩;have hgoal:skipW p cmds i=fixW (blockW (addW p 6 []) cmds i) d ((blockW (addW p 6 []) cmds i).code.length-(d+2)):=by rw[hd];rfl
 rw[hgoal];rw[←hd] at hk1;have hqb:(blockW (addW p 6 []) cmds i).code.length≤1000000000:=by omega
 have hqd:d+2≤(blockW (addW p 6 []) cmds i).code.length:=by omega
 have hdb:d≤900000001:=by omega
 clear hgoal hk2 hk3 hd;generalize blockW (addW p 6 []) cmds i=q at*;generalize hm:q.code.length-(d+2)=m at*;unfold blockV
 go_enter Tryz.func98,Tryz.ntmps98
 go_wp2_with (first
  |(go_at_call 100;refine(uh C1).mono ?_;clear C1;rintro e w1 ⟨rfl,vc1,hm1,ht1⟩;obtain⟨g1,k1,rfl,-⟩:=owns_form hm1.code (by omega);have c2:=hm1.row.cell? (i:=2) rfl;rw[hk1] at c2;have C2:=hide (uh CB _ _ hm1 ht1);have HT1:=hide ht1;clear hm1 ht1)
  |(go_at_call 99;refine(uh C2).mono ?_;clear C2 c2;rintro e w2 ⟨rfl,vs2,vc2,hm2,ht2⟩;have HM2:=hide hm2;have HT2:=hide ((uh HT1).trans ht2);clear hm2 ht2)
  |fail)
 obtain⟨g,k2,rfl,hgB,-⟩:=owns_form (uh HM2).code (by omega);have hcap:=own_cap (uh HM2).code;clear hk1 CB;have c2:=(uh HM2).row.cell? (i:=2) rfl;have hb9:=(Below.refl w2.heap.size w2).drew;have CY:=hide (bytes_any wb m 2 (Nat.le_refl 2) _ _ _ _ w2.drew (uh HM2).row (by omega));generalize hqn:q.code.length=n at*;have hb2:=beB_len m 2 (Nat.le_refl 2)
 have i1:(d:Int)≤1000000000:=by omega
 have i2:(d:Int)≤(n:Int):=by omega
 have i3:(n:Int)≤(k2:Int):=by omega
 have i4:(d:Int)≤(k2:Int):=by omega
 have i0:(0:Int)≤(d:Int):=by omega
 have e1:IntKind.wrap .i64 ((d:Int)+2-2)=(d:Int):=by rw[Int.add_sub_cancel];exact wrap_small (by omega) (by omega)
 have e1' :IntKind.wrap .i64 (d:Int)=(d:Int):=wrap_small (by omega) (by omega);have e2:IntKind.wrap .i64 ((n:Int)-((d:Int)+2))=(m:Int):=by rw[show (n:Int)-((d:Int)+2)=(m:Int) by omega];exact wrap_small (by omega) (by omega)
 have hnd:d≤n:=by omega
 have hndk:d≤k2:=by omega
 go_region_held3 (fun w' =>w'.cell? ⟨wb,2,none⟩=some (.slice (some ⟨g,0,none⟩) n k2)) (go_keep) (first
  |(go_at_call 148;refine(uh CY).mono ?_;clear CY;rintro e w3 ⟨N3,rfl,hN3,hr3,hn3,ht3⟩;have d2:=hr3.cell? (i:=2) rfl;have HO3:=hide (own_same (uh HM2).code (fun q hq=>ht3.block q ((uh HM2).code.lt q hq).2 (by have:=((uh HM2).code.lt q hq).1;omega)));have HN3:=hide hN3;have HR3:=hide hr3;have HT3:=hide ((Tn.later (p:=fun q=>q=wb) hb9).trans ht3);clear hN3 hr3 ht3 hn3)
  |(refine step_copy_over rfl (.tmp 20) (.tmp 29) 126 126 rfl 5 Tryz.underlying126 hcu B g k2 n _ (by have:=uh HO3;rw[hqn] at this;exact this) d _ _ (by rfl) ⟨N3,0,none⟩ 2 2 (by rfl) (Lib.byteCells (Cp.beB m 2)) (by rw[Lib.byteCells_length,hb2]) (by omega) (by omega) (fun j u hj=>by rw[addr_add0];exact(uh HN3).cell? hj) (byte_one _) ?_;intro w4 hown4 ht4;have HE4:=hide ((uh HM2).over hqn (by omega) (uh HT3) (uh HR3) hown4 ht4);have d4:=(uh HE4).1.cell? (i:=2) rfl;clear hown4 ht4))
 all_goals go_wp2_with fail
 all_goals go_end0
 all_goals exact⟨rfl,_,_,(uh HE4).2.1,(uh HT2).trans (uh HE4).2.2⟩
def strsW (ss:List Pl.Bs):Pl.Bs:=ss.flatMap fun s=>Cp.beB s.length 2++s
def outW (ss:List Pl.Bs) (i:Nat):Pl.Bs:=([80,49]++Cp.beB ss.length 2)++strsW (ss.take i)
def failW (p:Cp.Wr) (i:Nat):Bool:=(p.failed||Cp.big p.strs.length 2)||(p.strs.take i).any fun s=>Cp.big s.length 2
def textW (p:Cp.Wr):Option Pl.Bs:=if failW p p.strs.length||decide (1000<p.strs.length) then none else some (outW p.strs p.strs.length++p.code)
def textV:Option Pl.Bs→Value
 |some t=> .tuple #[.string ⟨t.toArray⟩,.bool true]
 |none=> .tuple #[.string ⟨#[]⟩,.bool false]
theorem strsW_take:∀(ss:List Pl.Bs) (i:Nat),(strsW (ss.take i)).length≤(strsW ss).length
 |[],i=>by simp
 |s::r,0=>by simp[strsW]
 |s::r,i+1=>by
  have ih:=strsW_take r i;unfold strsW at*;simp only[List.take_succ_cons,List.flatMap_cons,List.length_append];omega
theorem strsW_mem:∀(ss:List Pl.Bs) (s:Pl.Bs),s∈ss→s.length≤(strsW ss).length
 |[],s,h=>by cases h
 |x::r,s,h=>by
  unfold strsW;simp only[List.flatMap_cons,List.length_append]
  rcases List.mem_cons.1 h with e|e
  ·subst e;omega
  ·have ih:=strsW_mem r s e
   unfold strsW at ih;omega
theorem strsW_count:∀(ss:List Pl.Bs),ss.length≤(strsW ss).length
 |[]=>Nat.le_refl _
 |x::r=>by
  have ih:=strsW_count r;have:=beB_len x.length 2 (Nat.le_refl 2);unfold strsW at*;simp only[List.flatMap_cons,List.length_append,List.length_cons];omega
theorem outW_len (ss:List Pl.Bs) (i:Nat):(outW ss i).length≤4+(strsW ss).length:=by
 have h1:=strsW_take ss i;have h2:=beB_len ss.length 2 (Nat.le_refl 2);unfold outW;simp only[List.length_append,List.length_cons,List.length_nil];omega
theorem outW_next (ss:List Pl.Bs) (i:Nat) (h:i<ss.length):outW ss (i+1)=outW ss i++Cp.beB ss[i].length 2++ss[i]:=by
 unfold outW strsW;rw[List.take_add_one,List.getElem?_eq_getElem h,List.flatMap_append];simp
theorem failW_next (p:Cp.Wr) (i:Nat) (h:i<p.strs.length):failW p (i+1)=(failW p i||Cp.big p.strs[i].length 2):=by
 unfold failW;rw[List.take_add_one,List.getElem?_eq_getElem h,List.any_append];simp[Bool.or_assoc]
theorem Tn.tail {p q:Nat→Prop} {a b c:World} (h:Tn p a b) (g:Tn q b c) (hq:∀k,q k→a.heap.size≤k):Tn p a c:=
 ⟨g.os.trans h.os,g.tape.trans h.tape,g.output.trans h.output,Nat.le_trans h.size g.size,fun k hk hp=>(g.block k (Nat.lt_of_lt_of_le hk h.size) (fun e=>by have:=hq k e;omega)).trans (h.block k hk hp)⟩
theorem strCells_bytes (s:Pl.Bs):Lib.strCells ⟨s.toArray⟩=Lib.byteCells s:=by
 unfold Lib.strCells Lib.byteCells;rfl
theorem failW_zero (p:Cp.Wr):failW p 0=(p.failed||Cp.big p.strs.length 2):=by
 unfold failW;simp
theorem outW_zero (ss:List Pl.Bs):outW ss 0=[80,49]++Cp.beB ss.length 2:=by
 unfold outW strsW;simp
theorem cell_block {w:World} {b:Nat} {t:TypeId} {vs:List Value} {fz:Nat×Nat} {j:Nat} {u:Value} (h:w.heap[b]?=some (.cells vs.toArray t fz)) (hj:vs[j]?=some u):w.cell? ⟨b,j,none⟩=some u:=by
 unfold World.cell?;simp[h,hj]
structure TxM (W:World) (H wb nb:Nat) (p:Cp.Wr) (vs vc:Value) (i:Nat) (ov:Value) (wr:World):Prop where
 tn:Tn (fun k=>k=wb) W wr
 hH:W.heap.size≤H∧H≤wr.heap.size
 row:Row wr wb 281 [.map (some nb),vs,vc,.bool (failW p i)]
 own:wr.ownsRow H 5 1 ov (outW p.strs i).length (Lib.byteCells (outW p.strs i))
theorem own_bytes {w:World} {B:Nat} {v:Value} {bs:Pl.Bs} (h:w.ownsRow B 5 1 v bs.length (Lib.byteCells bs)) (h0:0<bs.length):(convert 126 9 v).run Tryz.prog w= .ok (.string ⟨bs.toArray⟩) w:=by
 obtain⟨g,cap,rfl,-⟩:=owns_form h h0;refine run_convert_bytes_back w _ _ 5 _ cap bs Tryz.underlying126 Tryz.underlying5 Tryz.underlying9 ?_;intro j hj;have:=own_cell h j (by rw[Lib.byteCells_length];exact hj);rw[addr_add0,this];unfold Lib.byteCells;simp
end Go.Proofs.YtjelacjggijmfaaGreatDoor
