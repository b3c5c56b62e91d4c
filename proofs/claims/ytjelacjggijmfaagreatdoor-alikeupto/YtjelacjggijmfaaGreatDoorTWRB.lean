/-
  Maps from strings: the entry that came last is taken off.
-/
import Derived.Test.YtjelacjggijmfaaGreatDoorTWR6
import Derived.Deep.Cut
import Derived.Test.YtjelacjggijmfaaGreatDoorTWP3
set_option maxHeartbeats 4000000
set_option maxRecDepth 100000
namespace Go.Proofs.YtjelacjggijmfaaGreatDoor
open Go.RowKit Go.MapKept Go.ChangeMaps Go.Maps
theorem wrText_any (B wb nb:Nat) (p:Cp.Wr) (vs vc:Value) (W:World) (h:WrM W B wb nb p vs vc) (hsz:(strsW p.strs).length≤1000000000) (hc0:0<p.code.length) (hcl:p.code.length≤1073741824):
 Calls Tryz.prog 102 #[.pointer (some ⟨wb,0,none⟩)] W fun e W' =>e= .returned (textV (textW p))∧Tn (fun k=>k=wb) W W' :=by
 obtain⟨i0,hi0,hz0,hz1,hz2⟩:=info_parts Tryz.infoU8;have hcount:=strsW_count p.strs;have hcv:=Lib.run_convert_bytes_const (P:=Tryz.prog) W 126 5 #[.int .u8 80,.int .u8 49] 2 2 Tryz.underlying126 Tryz.underlying5;obtain⟨sa,sc,hvs⟩:=own_sh h.strs;obtain⟨cg,ccap,hvc,-⟩:=owns_form h.code hc0;subst hvs hvc;have H0:=hide h;have hlt:=h.row.lt;have hwB:=h.wB
 obtain⟨W1,hW1⟩:∃W1,W1=W.alloc (.cells #[.int .u8 80,.int .u8 49] 5 (2,3)):=⟨_,rfl⟩;have hcv' :(convert 126 126 (.slice (some ⟨W.heap.size,0,none⟩) 2 2)).run Tryz.prog (W.alloc (.cells #[.int .u8 80,.int .u8 49] 5))= .ok (.slice (some ⟨W.heap.size,0,none⟩) 2 2) W1:=by rw[hW1];exact hcv
 have hb1:Below W.heap.size W W1:=by rw[hW1];exact(Below.refl _ W).alloc (Nat.le_refl _) _
 have hr1:Row W1 wb 281 _:=h.row.later hb1;have c1:=hr1.cell? (i:=1) rfl;have hN1:W1.heap[W.heap.size]?=some (.cells #[.int .u8 80,.int .u8 49] 5 (2,3)):=by rw[hW1];show(W.heap.push _)[W.heap.size]?=_;simp
 have hz1' :W1.heap.size=W.heap.size+1:=by rw[hW1];exact World.size_alloc _ _
 have CB:=hide (bytes_any wb p.strs.length 2 (Nat.le_refl 2) _ _ _ _ W1 hr1 (by omega));have HB1:=hide hb1;have HN1:=hide hN1;clear hcv hW1 hb1 hr1 hN1 h
 go_enter Tryz.func102,Tryz.ntmps102
 go_wp2_with (first
  |(go_at_call 148;refine(uh CB).mono ?_;clear CB;rintro e w2 ⟨N2,rfl,hN2,hr2,hn2,ht2⟩;have HN2:=hide hN2;have HR2:=hide hr2;have HX2:=hide ((ht2.block W.heap.size (by omega) (by omega)).trans (uh HN1));have HT2:=hide ((Tn.later (p:=fun k=>k=wb) (uh HB1)).trans ht2);have hs2:=ht2.size;clear hN2 hr2 hn2 ht2)
  |(at_builtin;refine wpList_append_grows _ rfl (.tmp 8) (.tmp 15) 126 rfl 5 i0 (.int .u8 0) 1 1 Tryz.underlying126 hi0 hz0 hz1 hz2 rfl (by decide) (some ⟨W.heap.size,0,none⟩) 2 2 (Lib.byteCells [80,49]) rfl (fun e=>by cases e) rfl (fun b e j u hj=>by cases e;rw[addr_add0];exact cell_block (uh HX2) hj) ⟨N2,0,none⟩ 2 2 (Lib.byteCells (Cp.beB p.strs.length 2)) rfl (by rw[Lib.byteCells_length,beB_len _ _ (Nat.le_refl 2)]) (fun j u hj=>by rw[addr_add0];exact(uh HN2).cell? hj) (byte_one _) (by omega) (by decide) (by decide) ?_;intro v3 w3 hown3 hgrow3;have hr3:=(uh HR2).grown hgrow3 (by simp);have c3:=hr3.cell? (i:=1) rfl;have HX3:Hid (TxM W w2.heap.size wb nb p (.slice sa p.strs.length sc) (.slice (some ⟨cg,0,none⟩) p.code.length ccap) 0 v3 w3):=⟨(uh HT2).tail (Tn.grown (p:=fun _=>False) hgrow3 (fun k e=>by cases e)) (fun _ e=>e.elim),⟨by omega,hgrow3.size⟩,by rw[failW_zero];exact hr3,by rw[outW_zero,List.length_append,beB_len _ _ (Nat.le_refl 2),Lib.byteCells_append];exact hown3⟩;clear hown3 hgrow3 hr3)
  |fail)
 generalize w2.heap.size=H at*;clear HN1 HN2 HR2 HX2 HT2 HB1 hcv' c1
 go_loopw [4,22] (fun ov iv wr=>∃i:Nat,iv= .int .i64 i∧i≤p.strs.length∧Hid (TxM W H wb nb p (.slice sa p.strs.length sc) (.slice (some ⟨cg,0,none⟩) p.code.length ccap) i ov wr)) (fun _ iv _=>p.strs.length-intN iv)
 case atStart=>exact⟨0,rfl,by omega,HX3⟩
 case round=>
  clear HX3 c3;obtain⟨i,rfl,hi2,HX⟩:=hrel;have hHs:=(uh HX).hH
  by_cases hi:i<p.strs.length
  ·have t1:(i:Int)<p.strs.length:=by omega
   have t0:(0:Int)≤(i:Int):=by omega
   obtain⟨g,k0,hsa,-⟩:=owns_form (uh H0).strs (by omega);cases hsa;have HS:=hide (own_same (uh H0).strs (fun k hk=>(uh HX).tn.block k ((uh H0).strs.lt k hk).2 (by have:=((uh H0).strs.lt k hk).1;omega)));have cs:=own_cell (uh HS) i (by simpa using hi);rw[List.getElem_map] at cs;have hxl:=strsW_mem p.strs p.strs[i] (List.getElem_mem hi);have hnx:=outW_next p.strs i hi
   have hfx:=failW_next p i hi;have hol:=outW_len p.strs i;generalize hx:p.strs[i]=x at*;unfold strV at cs;have hb2:=beB_len x.length 2 (Nat.le_refl 2);have CB:=hide (bytes_any wb x.length 2 (Nat.le_refl 2) _ _ _ _ wr (uh HX).row (by omega));have HNX:=hide hnx;have HFX:=hide hfx;have hxs:(ByteArray.mk x.toArray).size=x.length:=rfl;clear hnx hfx
   go_wp2_with (first
    |(go_at_call 148;refine(uh CB).mono ?_;clear CB;rintro e w5 ⟨N5,rfl,hN5,hr5,hn5,ht5⟩;have HN5:=hide hN5;have HR5:=hide hr5;have HO5:=hide (own_same (uh HX).own (fun k hk=>ht5.block k ((uh HX).own.lt k hk).2 (by have:=((uh HX).own.lt k hk).1;omega)));have HT5:=hide ((uh HX).tn.trans ht5);have hs5:=ht5.size;clear hN5 hr5 hn5 ht5)
    |(at_builtin;refine wpList_append_own_at _ rfl (.tmp 26) (.tmp 30) 126 rfl H 5 i0 (.int .u8 0) 1 1 Tryz.underlying126 hi0 hz0 hz1 hz2 rfl (by decide) _ _ _ rfl (uh HO5) ⟨N5,0,none⟩ 2 2 (Lib.byteCells (Cp.beB x.length 2)) rfl (by rw[Lib.byteCells_length,hb2]) (fun j u hj=>by rw[addr_add0];exact(uh HN5).cell? hj) (byte_one _) (by unfold maxLen;omega) (by omega) (by omega) ?_;intro v6 w6 hown6 hgrow6 _ _;have HO6:=hide hown6;have HR6:=hide ((uh HR5).grown hgrow6 (own_ne (uh HO5) (by omega)));have HT6:=hide ((uh HT5).tail (Tn.grown (p:=fun k=>H≤k) hgrow6 (fun k e=>((uh HO5).lt k e).1)) (fun k e=>by omega));have hs6:=hgrow6.size;clear hown6 hgrow6)
    |(at_builtin;refine Lib.wpList_append_own_string _ rfl (.tmp 32) (.tmp 33) 126 9 rfl H 5 i0 Tryz.underlying126 Tryz.underlying9 hi0 hz0 hz1 hz2 _ _ _ rfl (uh HO6) ⟨x.toArray⟩ rfl (by rw[hxs];unfold maxLen;omega) (by rw[hxs];omega) (by omega) ?_;intro v7 w7 hown7 hgrow7 _;rw[strCells_bytes,hxs] at hown7;have HX7:Hid (TxM W H wb nb p (.slice (some ⟨g,0,none⟩) p.strs.length sc) (.slice (some ⟨cg,0,none⟩) p.code.length ccap) (i+1) v7 w7):=⟨(uh HT6).tail (Tn.grown (p:=fun k=>H≤k) hgrow7 (fun k e=>((uh HO6).lt k e).1)) (fun k e=>by omega),⟨by omega,Nat.le_trans (by omega) hgrow7.size⟩,by rw[uh HFX];exact(uh HR6).grown hgrow7 (own_ne (uh HO6) (by omega)),by rw[uh HNX,List.length_append,List.length_append,hb2,Lib.byteCells_append,Lib.byteCells_append];exact hown7⟩;clear hown7 hgrow7)
    |fail)
   go_roundw
   case rel=>exact⟨i+1,by go_num,by omega,HX7⟩
   case measure=>simp only[intN];omega
  ·have hie:i=p.strs.length:=by omega
   subst hie;have t1:¬(p.strs.length:Int)<p.strs.length:=by omega
   have c1:=(uh HX).row.cell? (i:=1) rfl;have c2:=(uh HX).row.cell? (i:=2) rfl;have c3:=(uh HX).row.cell? (i:=3) rfl;have HG:Hid (textW p=if failW p p.strs.length||decide (1000<p.strs.length) then none else some (outW p.strs p.strs.length++p.code)):=rfl;cases hf:failW p p.strs.length with
   |true=>
    rw[hf] at c3;have e0:textW p=none:=by rw[uh HG,hf];rfl
    have HE0:=hide e0;clear HG e0
    go_wp2_with fail
    go_ret2
    exact⟨by rw[uh HE0];rfl,(uh HX).tn⟩
   |false=>
    rw[hf] at c3
    by_cases hb:1000<p.strs.length
    ·have t2:(1000:Int)<p.strs.length:=by omega
     have e0:textW p=none:=by rw[uh HG,hf];simp[hb]
     have HE0:=hide e0;clear HG e0
     go_wp2_with fail
     go_ret2
     exact⟨by rw[uh HE0];rfl,(uh HX).tn⟩
    ·have t2:¬(1000:Int)<p.strs.length:=by omega
     have e0:textW p=some (outW p.strs p.strs.length++p.code):=by rw[uh HG,hf];simp[hb]
     have HE0:=hide e0;clear HG e0;have hol:=outW_len p.strs p.strs.length;have HCO:=hide (own_same (uh H0).code (fun k hk=>(uh HX).tn.block k ((uh H0).code.lt k hk).2 (by have:=((uh H0).code.lt k hk).1;omega)))
     go_wp2_with (first
      |(at_builtin;refine wpList_append_own_at _ rfl (.tmp 48) (.tmp 52) 126 rfl H 5 i0 (.int .u8 0) 1 1 Tryz.underlying126 hi0 hz0 hz1 hz2 rfl (by decide) _ _ _ rfl (uh HX).own ⟨cg,0,none⟩ p.code.length ccap (Lib.byteCells p.code) rfl (by rw[Lib.byteCells_length];omega) (fun j u hj=>by rw[addr_add0];obtain⟨hj1,hj2⟩:=List.getElem?_eq_some_iff.1 hj;rw[←hj2];exact own_cell (uh HCO) j hj1) (byte_one _) (by unfold maxLen;omega) (by omega) (by omega) ?_;intro v6 w6 hown6 hgrow6 _ _;rw[←Lib.byteCells_append,←List.length_append] at hown6;have hcv6:=own_bytes hown6 (by rw[List.length_append];omega);have HT6:=hide ((uh HX).tn.tail (Tn.grown (p:=fun k=>H≤k) hgrow6 (fun k e=>((uh HX).own.lt k e).1)) (fun k e=>by omega));clear hown6 hgrow6)
      |fail)
     go_ret2
     exact⟨by rw[uh HE0];rfl,uh HT6⟩
structure Stp where
 name:Pl.Bs
 ph:Bool
 needs:List Pl.Bs
 stem:Pl.Bs
 cmds:List Pl.Bs
def flPut:Flags→Pl.Bs→Nat→Flags
 |[],k,v=>[(k,v)]
 |x::r,k,v=>if x.1==k then(k,v)::r else x::flPut r k v
theorem flPut_ents (k:Pl.Bs) (v:Nat):∀fl:Flags,mput (flEnts fl) k (.int .i64 (v:Int))=flEnts (flPut fl k v)
 |[]=>rfl
 |x::r=>by
  have ih:=flPut_ents k v r;unfold flEnts at*;rw[List.map_cons,mput,flPut];cases hx:(x.1==k) with
  |true=>simp
  |false=>simp[ih]
theorem flPut_len (k:Pl.Bs) (v:Nat):∀fl:Flags,(flPut fl k v).length≤fl.length+1
 |[]=>Nat.le_refl _
 |x::r=>by
  have ih:=flPut_len k v r;rw[flPut];split
  ·simp
  ·simp only[List.length_cons];omega
theorem flPut_mem (k:Pl.Bs) (v n:Nat) (hv:v<n):∀fl:Flags,(∀x∈fl,x.2<n)→∀x∈flPut fl k v,x.2<n
 |[],_,x,hx=>by
  rw[flPut,List.mem_singleton] at hx;subst hx;exact hv
 |y::r,h,x,hx=>by
  rw[flPut] at hx;split at hx
  ·rcases List.mem_cons.1 hx with e|e
   ·subst e;exact hv
   ·exact h x (List.mem_cons_of_mem _ e)
  ·rcases List.mem_cons.1 hx with e|e
   ·subst e;exact h _ (List.mem_cons_self ..)
   ·exact flPut_mem k v n hv r (fun z hz=>h z (List.mem_cons_of_mem _ hz)) x e
def writeAt (ss:List Stp):Nat→Cp.Wr×Flags
 |0=>(⟨[],[],false⟩,[])
 |i+1=>match ss[i]? with
  |some x=>(skipW (staleW (flPut (writeAt ss i).2 x.name i) (writeAt ss i).1 x.ph x.name x.needs) x.cmds i,flPut (writeAt ss i).2 x.name i)
  |none=>writeAt ss i
def planW (ss:List Stp):Option Pl.Bs:=textW (writeAt ss ss.length).1
theorem writeAt_next (ss:List Stp) (i:Nat) (h:i<ss.length):writeAt ss (i+1)=(skipW (staleW (flPut (writeAt ss i).2 ss[i].name i) (writeAt ss i).1 ss[i].ph ss[i].name ss[i].needs) ss[i].cmds i,flPut (writeAt ss i).2 ss[i].name i):=by
 rw[writeAt,List.getElem?_eq_getElem h]
def Stp.sz (x:Stp):Nat:=2+x.name.length+(strsW x.needs).length+(strsW x.cmds).length
def szs (ss:List Stp):Nat:=(ss.map Stp.sz).sum
theorem strsW_snoc (ss:List Pl.Bs) (s:Pl.Bs):(strsW (ss++[s])).length=(strsW ss).length+2+s.length:=by
 unfold strsW;rw[List.flatMap_append,List.length_append];simp[beB_len s.length 2 (Nat.le_refl 2)];omega
theorem str_sz (p:Cp.Wr) (s:Pl.Bs):(strsW (p.str s).strs).length≤(strsW p.strs).length+2+s.length:=by
 unfold Cp.Wr.str;cases hf:p.strs.findIdx? (fun x=>x==s) with
 |none=>rw[strsW_snoc];exact Nat.le_refl _
 |some i=>simp only;omega
theorem staleStep_sz (fl:Flags) (nm:Nat) (q:Cp.Wr) (x:Pl.Bs):(strsW (staleStep fl nm q x).strs).length≤(strsW q.strs).length+2+x.length:=by
 unfold staleStep;rw[addW_strs,addW_strs];refine Nat.le_trans (str_sz _ _) ?_;rw[addW_strs,addW_strs];exact Nat.le_refl _
theorem strsW_cons (s:Pl.Bs) (ss:List Pl.Bs):(strsW (s::ss)).length=2+s.length+(strsW ss).length:=by
 unfold strsW;rw[List.flatMap_cons,List.length_append,List.length_append,beB_len s.length 2 (Nat.le_refl 2)]
theorem staleFold_sz (fl:Flags) (nm:Nat):∀(needs:List Pl.Bs) (q:Cp.Wr),(strsW (needs.foldl (staleStep fl nm) q).strs).length≤(strsW q.strs).length+(strsW needs).length
 |[],q=>Nat.le_add_right _ _
 |n::r,q=>by
  have ih:=staleFold_sz fl nm r (staleStep fl nm q n);have h1:=staleStep_sz fl nm q n;rw[List.foldl_cons,strsW_cons];omega
theorem staleW_sz (fl:Flags) (p:Cp.Wr) (ph:Bool) (name:Pl.Bs) (needs:List Pl.Bs):(strsW (staleW fl p ph name needs).strs).length≤(strsW p.strs).length+2+name.length+(strsW needs).length:=by
 unfold staleW;cases ph with
 |true=>rw[if_pos rfl,addW_strs];omega
 |false=>
  simp only[Bool.false_eq_true,if_false];have h1:=staleFold_sz fl (p.num name) needs (addW (p.str name) 2 [p.num name]);have h2:=str_sz p name;rw[addW_strs] at h1;omega
theorem giveFold_sz:∀(cmds:List Pl.Bs) (q:Cp.Wr),(strsW (cmds.foldl giveStep q).strs).length≤(strsW q.strs).length+(strsW cmds).length
 |[],q=>Nat.le_add_right _ _
 |c::r,q=>by
  have ih:=giveFold_sz r (giveStep q c);have h1:(strsW (giveStep q c).strs).length≤(strsW q.strs).length+2+c.length:=by unfold giveStep;rw[addW_strs];exact str_sz q c
  rw[List.foldl_cons,strsW_cons];omega
theorem skipW_sz (p:Cp.Wr) (cmds:List Pl.Bs) (i:Nat):(strsW (skipW p cmds i).strs).length≤(strsW p.strs).length+(strsW cmds).length:=by
 show(strsW (blockW (addW p 6 []) cmds i).strs).length≤_;unfold blockW;rw[addW_strs];have:=giveFold_sz cmds (addW p 6 []);rw[addW_strs] at this;exact this
theorem skipW_ge (p:Cp.Wr) (cmds:List Pl.Bs) (i:Nat):p.code.length+3≤(skipW p cmds i).code.length:=by
 have h2:=skip_len p;have h3:=blockW_ge (addW p 6 []) cmds i;show _≤((blockW (addW p 6 []) cmds i).code.take (p.code.length+1)++(Cp.beB _ 2++(blockW (addW p 6 []) cmds i).code.drop (p.code.length+1+2))).length;rw[over_len _ _ _ (beB_len _ _ (Nat.le_refl 2)) (by omega)];omega
structure WAt (ss:List Stp) (i:Nat):Prop where
 strs:(writeAt ss i).1.strs.length≤2001*i
 code:(writeAt ss i).1.code.length≤30000*i
 sz:(strsW (writeAt ss i).1.strs).length≤szs (ss.take i)
 pos:0<i→0<(writeAt ss i).1.code.length
 flags:(writeAt ss i).2.length≤i
 lt:∀x∈(writeAt ss i).2,x.2<i
theorem wAt (ss:List Stp) (hn:∀x∈ss,x.needs.length≤1000∧x.cmds.length≤1000):∀i,i≤ss.length→WAt ss i
 |0,_=>⟨Nat.le_refl _,Nat.le_refl _,Nat.le_refl _,fun e=>by omega,Nat.le_refl _,fun x hx=>by cases hx⟩
 |i+1,hi=>by
  have ih:=wAt ss hn i (by omega);have hl:i<ss.length:=by omega
  obtain⟨n1,n2⟩:=hn ss[i] (List.getElem_mem hl);have e:=writeAt_next ss i hl;have a1:=staleW_len (flPut (writeAt ss i).2 ss[i].name i) (writeAt ss i).1 ss[i].ph ss[i].name ss[i].needs;have a2:=skipW_len (staleW (flPut (writeAt ss i).2 ss[i].name i) (writeAt ss i).1 ss[i].ph ss[i].name ss[i].needs) ss[i].cmds i
  have a3:=staleW_sz (flPut (writeAt ss i).2 ss[i].name i) (writeAt ss i).1 ss[i].ph ss[i].name ss[i].needs;have a4:=skipW_sz (staleW (flPut (writeAt ss i).2 ss[i].name i) (writeAt ss i).1 ss[i].ph ss[i].name ss[i].needs) ss[i].cmds i;have a5:=skipW_ge (staleW (flPut (writeAt ss i).2 ss[i].name i) (writeAt ss i).1 ss[i].ph ss[i].name ss[i].needs) ss[i].cmds i
  have a6:=flPut_len ss[i].name i (writeAt ss i).2;have b1:=ih.strs;have b2:=ih.code;have b3:=ih.sz;have b5:=ih.flags
  have hz:szs (ss.take (i+1))=szs (ss.take i)+ss[i].sz:=by
   unfold szs;rw[List.take_succ_eq_append_getElem hl,List.map_append,List.sum_append];simp
  refine⟨?_,?_,?_,?_,?_,?_⟩
  ·rw[e];dsimp only;omega
  ·rw[e];dsimp only;omega
  ·rw[e,hz];unfold Stp.sz;dsimp only;omega
  ·rw[e];dsimp only;omega
  ·rw[e];dsimp only;omega
  ·rw[e]
   exact flPut_mem _ i (i+1) (by omega) _ (fun x hx=>by have:=ih.lt x hx;omega)
theorem szs_take (ss:List Stp) (i:Nat):szs (ss.take i)≤szs ss:=by
 unfold szs;rw[List.map_take]
 conv=>rhs;rw[←List.take_append_drop i (ss.map Stp.sz)]
 rw[List.sum_append];omega
def Row6 (W:World) (b o:Nat) (cs:List Value):Prop:=∀(j:Nat) (u:Value),cs[j]?=some u→W.cell? ⟨b,o+j,none⟩=some u
def StR (W:World) (L b o:Nat) (x:Stp):Prop:=∃(an ac am:Option Addr) (cn cc nb no cb co nm cm:Nat),
 Row6 W b o [strV x.name,.bool x.ph,.slice an x.needs.length cn,.slice am nm cm,strV x.stem,.slice ac x.cmds.length cc]∧(0<x.needs.length→an=some ⟨nb,no,none⟩∧nb<L∧RdN W nb no x.needs)∧(0<x.cmds.length→ac=some ⟨cb,co,none⟩∧cb<L∧RdN W cb co x.cmds)
theorem newWriter_any (W:World):Calls Tryz.prog 96 #[] W fun e W' =>∃wb nb,e= .returned (.pointer (some ⟨wb,0,none⟩))∧(∀B,W'.heap.size≤B→WrM W' B wb nb ⟨[],[],false⟩ (.slice none 0 0) (.slice none 0 0))∧Below W.heap.size W W' ∧W.heap.size≤wb∧W.heap.size≤nb:=by
 have hmm:= @run_makeMap Tryz.prog;have hb1:=(Below.refl W.heap.size W).alloc (Nat.le_refl _) (.map #[] 0);have hz1:(W.alloc (.map #[] 0)).heap.size=W.heap.size+1:=World.size_alloc _ _;have hb2:=(Below.refl (W.alloc (.map #[] 0)).heap.size (W.alloc (.map #[] 0))).alloc (Nat.le_refl _) (.cells #[.map (some W.heap.size),.slice none 0 0,.slice none 0 0,.bool false] 281)
 have hb:Hid (Below W.heap.size W ((W.alloc (.map #[] 0)).alloc (.cells #[.map (some W.heap.size),.slice none 0 0,.slice none 0 0,.bool false] 281))):=hb1.alloc (by omega) _
 have hm:Hid (∀B,((W.alloc (.map #[] 0)).alloc (.cells #[.map (some W.heap.size),.slice none 0 0,.slice none 0 0,.bool false] 281)).heap.size≤B→WrM ((W.alloc (.map #[] 0)).alloc (.cells #[.map (some W.heap.size),.slice none 0 0,.slice none 0 0,.bool false] 281)) B (W.heap.size+1) W.heap.size ⟨[],[],false⟩ (.slice none 0 0) (.slice none 0 0)):=fun B hB=>by
  rw[World.size_alloc,hz1] at hB;have hr:=Row.new (W.alloc (.map #[] 0)) 281 [.map (some W.heap.size),.slice none 0 0,.slice none 0 0,.bool false];rw[hz1] at hr;exact⟨hr,(SMap.made W).later hb2,World.ownsRow_nil _ _ _ _,World.ownsRow_nil _ _ _ _,by omega,by omega⟩
 clear hb1 hb2 hz1
 go_enter Tryz.func96,Tryz.ntmps96
 go_wp2_with fail
 go_ret
 exact⟨_,_,rfl,uh hm,uh hb,by omega,by omega⟩
structure WIn (W:World) (B wb nb xb fb:Nat) (ss:List Stp) (i:Nat) (wr:World):Prop where
 wm:∃vs vc,WrM wr B wb nb (writeAt ss i).1 vs vc
 below:Below W.heap.size W wr
 size:B≤wr.heap.size
 flags:SMap wr fb (flEnts (writeAt ss i).2)
 box:Row wr xb 207 [.pointer (some ⟨wb,0,none⟩)]
theorem WrM.tn {W Z:World} {B wb nb:Nat} {p:Cp.Wr} {vs vc:Value} {r:Nat→Prop} (h:WrM W B wb nb p vs vc) (ht:Tn r W Z) (h1:¬r wb) (h2:¬r nb) (h3:∀k,B≤k→¬r k):WrM Z B wb nb p vs vc:=
 ⟨h.row.tn ht h1,h.nums.tn ht h2,own_same h.strs (fun k hk=>ht.block k (h.strs.lt k hk).2 (h3 k (h.strs.lt k hk).1)),own_same h.code (fun k hk=>ht.block k (h.code.lt k hk).2 (h3 k (h.code.lt k hk).1)),h.wB,h.nB⟩
theorem write_any (ss:List Stp) (a:Option Addr) (cap sb so:Nat) (W:World) (ha:0<ss.length→a=some ⟨sb,so,none⟩) (hsb:sb<W.heap.size) (hr:∀i (h:i<ss.length),StR W W.heap.size sb (so+i*6) ss[i]) (h0:0<ss.length) (hl:ss.length≤200) (hn:∀x∈ss,x.needs.length≤1000∧x.cmds.length≤1000) (hz:szs ss≤1000000000):
 Calls Tryz.prog 67 #[.slice a ss.length cap] W fun e W' =>e= .returned (textV (planW ss))∧Below W.heap.size W W' :=by
 have hmm:= @run_makeMap Tryz.prog;have C1:=hide (newWriter_any W);obtain rfl:=ha h0;have HR:=hide hr;have HN:=hide (wAt ss hn);have HNN:=hide hn;clear ha hr hn
 go_enter Tryz.func67,Tryz.ntmps67
 go_wp2_with (first
  |(go_at_call 96;refine(uh C1).mono ?_;clear C1;rintro e w1 ⟨wb,nb,rfl,hm1,hb1,hw1,hw2⟩;have HM1:=hide hm1;have HB1:=hide hb1;clear hm1 hb1)
  |fail)
 have HX0:Hid (WIn W (w1.heap.size+2) wb nb w1.heap.size (w1.heap.size+1) ss 0 ((w1.alloc (.cells #[.pointer (some ⟨wb,0,none⟩)] 207)).alloc (.map #[] 0))):=by
  have hz1:(w1.alloc (.cells #[.pointer (some ⟨wb,0,none⟩)] 207)).heap.size=w1.heap.size+1:=World.size_alloc _ _;have hb1:=(Below.refl w1.heap.size w1).alloc (Nat.le_refl _) (.cells #[.pointer (some ⟨wb,0,none⟩)] 207);have hb2:=hb1.alloc (by omega) (.map #[] 0)
  have hb3:=(Below.refl (w1.alloc (.cells #[.pointer (some ⟨wb,0,none⟩)] 207)).heap.size (w1.alloc (.cells #[.pointer (some ⟨wb,0,none⟩)] 207))).alloc (Nat.le_refl _) (.map #[] 0);have hsm:=SMap.made (w1.alloc (.cells #[.pointer (some ⟨wb,0,none⟩)] 207));rw[hz1] at hsm
  exact⟨⟨_,_,(uh HM1 _ (by omega)).later hb2⟩,(uh HB1).trans (hb2.mono (uh HB1).size),by rw[World.size_alloc,hz1];exact Nat.le_refl _,hsm,(Row.new w1 207 [_]).later hb3⟩
 obtain⟨hwN,hnN⟩:=(uh HM1 _ (Nat.le_refl _)).size;clear HM1 HB1;generalize w1.heap.size=N at*
 go_loopw [12] (fun iv wr=>∃i:Nat,iv= .int .i64 i∧i≤ss.length∧Hid (WIn W (N+2) wb nb N (N+1) ss i wr)) (fun iv _=>ss.length-intN iv)
 case atStart=>exact⟨0,rfl,by omega,HX0⟩
 case round=>
  clear HX0 hmm;obtain⟨i,rfl,hi2,HX⟩:=hrel;obtain⟨b1,b2,b3,b4,b5,b6⟩:=uh HN i hi2
  by_cases hi:i<ss.length
  ·have t1:(i:Int)<ss.length:=by omega
   have t0:(0:Int)≤(i:Int):=by omega
   obtain⟨an,ac,am,cn,cc,nb',no,cb,co,nm,cm,hr6,hne,hcm⟩:=uh HR i hi;obtain⟨hn1,hn2⟩:=uh HNN ss[i] (List.getElem_mem hi);have HNX:=hide (writeAt_next ss i hi);obtain⟨vs,vc,hm⟩:=(uh HX).wm;have hBl:=(uh HX).below;have hsz:=(uh HX).size
   have g:∀(j:Nat) (u:Value),[strV ss[i].name,.bool ss[i].ph,.slice an ss[i].needs.length cn,.slice am nm cm,strV ss[i].stem,.slice ac ss[i].cmds.length cc][j]?=some u→wr.cell? ⟨sb,so+i*6+j,none⟩=some u:=fun j u hj=>(hBl.cell (p:=⟨sb,_,none⟩) hsb).trans (hr6 j u hj)
   have g0:wr.cell? ⟨sb,so+i*6,none⟩=some (strV ss[i].name):=g 0 _ rfl;have g1:=g 1 _ rfl;have g2:=g 2 _ rfl;have g3:=g 3 _ rfl;have g4:=g 4 _ rfl;have g5:=g 5 _ rfl;have a1:=staleW_len (flPut (writeAt ss i).2 ss[i].name i) (writeAt ss i).1 ss[i].ph ss[i].name ss[i].needs
   have HNE:Hid (0<ss[i].needs.length→an=some ⟨nb',no,none⟩∧nb' <W.heap.size∧RdN W nb' no ss[i].needs):=hne;have HCM:Hid (0<ss[i].cmds.length→ac=some ⟨cb,co,none⟩∧cb<W.heap.size∧RdN W cb co ss[i].cmds):=hcm;have hfl:=flPut_mem ss[i].name i 2147483648 (by omega) (writeAt ss i).2 (fun x hx=>by have:=b6 x hx;omega);have HFL:=hide hfl;clear g hr6 hne hcm b6 hfl
   generalize hP:(writeAt ss i).1=P at*;generalize hF:(writeAt ss i).2=F at*;have HFLG:=hide (uh HX).flags;have HBOX:=hide (uh HX).box;rw[hF] at HFLG;generalize hx:ss[i]=x at*;obtain⟨name,ph,needs,stem,cmds⟩:=x;dsimp only at*;have hflen:(flEnts F).length<maxLen:=by unfold flEnts maxLen;rw[List.length_map];omega
   --behind the two new variables
   have hz1:(wr.alloc (.cells #[.int .i64 (i:Int)] 3)).heap.size=wr.heap.size+1:=World.size_alloc _ _;have q1:=(Below.refl wr.heap.size wr).alloc (Nat.le_refl _) (.cells #[.int .i64 (i:Int)] 3);have q2:=q1.alloc (by omega) (.cells #[strV name,.bool ph,.slice an needs.length cn,.slice am nm cm,strV stem,.slice ac cmds.length cc] 206)
   have q3:=(Below.refl _ (wr.alloc (.cells #[.int .i64 (i:Int)] 3))).alloc (Nat.le_refl _) (.cells #[strV name,.bool ph,.slice an needs.length cn,.slice am nm cm,strV stem,.slice ac cmds.length cc] 206);have rI:=(Row.new wr 3 [.int .i64 (i:Int)]).later q3
   have rS:=Row.new (wr.alloc (.cells #[.int .i64 (i:Int)] 3)) 206 [strV name,.bool ph,.slice an needs.length cn,.slice am nm cm,strV stem,.slice ac cmds.length cc];rw[hz1] at rS
   have HZ:Hid (Below W.heap.size W _∧WrM _ (N+2) wb nb P vs vc∧SMap _ (N+1) (flEnts F)∧Row _ N 207 _∧Row _ wr.heap.size 3 _∧Row _ (wr.heap.size+1) 206 _):=⟨hBl.trans (q2.mono hBl.size),hm.later q2,(uh HFLG).later q2,(uh HBOX).later q2,rI,rS⟩
   have hzz:((wr.alloc (.cells #[.int .i64 (i:Int)] 3)).alloc (.cells #[strV name,.bool ph,.slice an needs.length cn,.slice am nm cm,strV stem,.slice ac cmds.length cc] 206)).heap.size=wr.heap.size+2:=by rw[World.size_alloc,hz1]
   have CS:=hide (fun (w:World) (h1:WrM w (N+2) wb nb P vs vc) (h2:N+2≤w.heap.size) (h3:SMap w (N+1) (flEnts (flPut F name i))) (h4:Below W.heap.size W w)=>writeStale_any (N+2) W.heap.size wb nb (N+1) P vs vc (flPut F name i) name stem ph needs an cn nb' no (.slice am nm cm) w h1 h2 hw1 hw2 h3 (by omega) (by omega) (uh HFL) (fun e=>⟨(uh HNE e).1,(uh HNE e).2.1,(uh HNE e).2.2.below h4 (uh HNE e).2.1⟩) hn1 (by omega) (by omega))
   have CK:=hide (fun (w:World) (vs' vc' :Value) (h1:WrM w (N+2) wb nb (staleW (flPut F name i) P ph name needs) vs' vc') (h2:N+2≤w.heap.size) (h4:Below W.heap.size W w) (hS:Row w (wr.heap.size+1) 206 [strV name,.bool ph,.slice an needs.length cn,.slice am nm cm,strV stem,.slice ac cmds.length cc]) (hX:Row w N 207 [.pointer (some ⟨wb,0,none⟩)]) (hI:Row w wr.heap.size 3 [.int .i64 (i:Int)])=>addSkip_any (N+2) W.heap.size wb nb (wr.heap.size+1) N wr.heap.size i (staleW (flPut F name i) P ph name needs) vs' vc' _ _ _ _ _ cmds ac cc cb co w h1 h2 hw1 hw2 hS hX hI (by omega) (fun e=>⟨(uh HCM e).1,(uh HCM e).2.1,(uh HCM e).2.2.below h4 (uh HCM e).2.1⟩) hn2 (by omega) (by omega))
   clear q1 q2 q3 rI rS hm hBl;unfold nodeV blockV strV at*
   go_wp2_with (first
    |(at_mapUpdate;refine wpList_put_s _ rfl _ _ _ 179 rfl 9 3 Tryz.underlying179 Tryz.underlying9 (N+1) (flEnts F) rfl (uh HZ).2.2.1 hflen name rfl (.int .i64 (i:Int)) rfl ?_;intro w3 hs3 ht3;rw[flPut_ents] at hs3;have tn3:=map_tn (p:=fun k=>k=N+1) ht3 rfl;have hs33:=tn3.size;have HB3:=hide ((uh HZ).1.trans (tn3.below (by omega) (fun k e=>by omega)));have HM3:=hide ((uh HZ).2.1.tn tn3 (by omega) (by omega) (fun k hk e=>by omega));have HX3:=hide ((uh HZ).2.2.2.1.tn tn3 (by omega));have HI3:=hide ((uh HZ).2.2.2.2.1.tn tn3 (by omega));have HS3:=hide ((uh HZ).2.2.2.2.2.tn tn3 (by omega));have HF3:=hide hs3;have x0:=(uh HX3).cell? (i:=0) rfl;have d0:=(uh HS3).cell? (i:=0) rfl;have d1:=(uh HS3).cell? (i:=1) rfl;have d2:=(uh HS3).cell? (i:=2) rfl;have d3:=(uh HS3).cell? (i:=3) rfl;have d4:=(uh HS3).cell? (i:=4) rfl;clear hs3 ht3 tn3)
    |(go_at_call 97;refine(uh CS _ (uh HM3) (by omega) (uh HF3) (uh HB3)).mono ?_;clear CS;rintro e w4 ⟨rfl,vs4,vc4,hm4,ht4⟩;have hs44:=ht4.tn.size;have HB4:=hide ((uh HB3).trans (WrT.below (uh HM3) ht4 hw1 hw2));have HX4:=hide ((uh HX3).wrt (uh HM3) ht4 (by decide) (by decide) (by decide));have HI4:=hide ((uh HI3).wrt (uh HM3) ht4 (by decide) (by decide) (by decide));have HS4:=hide ((uh HS3).wrt (uh HM3) ht4 (by decide) (by decide) (by decide));have HF4:=hide ((uh HF3).wrt (uh HM3) ht4 (by omega) (by omega));have y0:=(uh HX4).cell? (i:=0) rfl;have HM4:=hide hm4;clear hm4 ht4)
    |(go_at_call 98;refine(uh CK _ _ _ (uh HM4) (by omega) (uh HB4) (uh HS4) (uh HX4) (uh HI4)).mono ?_;clear CK;rintro e w5 ⟨rfl,vs5,vc5,hm5,ht5⟩;have HX5:Hid (WIn W (N+2) wb nb N (N+1) ss (i+1) w5):=⟨⟨_,_,by rw[uh HNX];exact hm5⟩,(uh HB4).trans (WrT.below (uh HM4) ht5 hw1 hw2),Nat.le_trans (by omega) ht5.tn.size,by rw[uh HNX];exact(uh HF4).wrt (uh HM4) ht5 (by omega) (by omega),(uh HX4).wrt (uh HM4) ht5 (by decide) (by decide) (by decide)⟩;clear hm5 ht5)
    |fail)
   go_roundw
   case rel=>exact⟨i+1,by go_num,by omega,HX5⟩
   case measure=>simp only[intN];omega
  ·have hie:i=ss.length:=by omega
   subst hie;have t1:¬(ss.length:Int)<ss.length:=by omega
   have cx:=(uh HX).box.cell? (i:=0) rfl;obtain⟨vs,vc,hm⟩:=(uh HX).wm;have hzz:=szs_take ss ss.length;have CT:=wrText_any _ _ _ _ _ _ _ hm (by omega) (b4 h0) (by omega);have HPL:Hid (planW ss=textW (writeAt ss ss.length).1):=rfl;have HBB:=hide (uh HX).below;have hwl:=hm.size.1;cases hp:textW (writeAt ss ss.length).1 with
   |none=>
    rw[hp] at CT HPL;unfold textV at CT;have CT' :=hide CT;clear CT hp hm b1 b2 b3 b4 b5 b6
    go_wp2_with (first
     |(go_at_call 102;refine(uh CT').mono ?_;clear CT';rintro e w9 ⟨rfl,ht9⟩;have HB9:=hide ((uh HBB).trans (ht9.below (Nat.le_trans hw1 (by omega)) (fun k e=>by omega)));clear ht9)
     |fail)
    go_ret2
    exact⟨by rw[uh HPL];rfl,uh HB9⟩
   |some t=>
    rw[hp] at CT HPL;unfold textV at CT;have CT' :=hide CT;clear CT hp hm b1 b2 b3 b4 b5 b6
    go_wp2_with (first
     |(go_at_call 102;refine(uh CT').mono ?_;clear CT';rintro e w9 ⟨rfl,ht9⟩;have HB9:=hide ((uh HBB).trans (ht9.below (Nat.le_trans hw1 (by omega)) (fun k e=>by omega)));clear ht9)
     |fail)
    go_ret2
    exact⟨by rw[uh HPL];rfl,uh HB9⟩
theorem erase_map {α β:Type} (f:α→β):∀(l:List α) (j:Nat),(l.eraseIdx j).map f=(l.map f).eraseIdx j
 |[],_=>rfl
 |_::_,0=>rfl
 |x::r,j+1=>by simp[List.eraseIdx,erase_map f r j]
section
variable {P:Program} {w:World} {b:Nat} {l:Ents} {t kt et ty:TypeId}
theorem SMap.delLast {k:Pl.Bs} {v:Value} (h:SMap w b (l++[(k,v)])) (ht:P.underlying t=some (.map kt et)) (hk:P.underlying kt=some .string):
 ∃w',(Builtin.delete_ #[t,kt] ty #[.map (some b),strV k]).run P w= .ok (.tuple #[]) w' ∧SMap w' b l∧w.mapTurned w' b:=by
 obtain⟨es,clock,hb,hst,hsz,he⟩:=h;have hbl:b<w.heap.size:=(Array.getElem?_eq_some_iff.1 hb).1;have hlen:es.toList.length=l.length+1:=by have:=congrArg List.length he;simpa using this
 have hmg:mget (l++[(k,v)]) k≠none:=by
  unfold mget;simp only[ne_eq,Option.map_eq_none_iff,List.find?_eq_none];intro hh;exact absurd (hh (k,v) (by simp)) (by simp)
 rcases findNow_s k es.toList (l++[(k,v)]) 0 he with⟨h1,_⟩|⟨j,v',e',h1,h2,h3,h4,h5⟩
 ·exact absurd h1 hmg
 ·obtain⟨hj,hje⟩:=List.getElem?_eq_some_iff.1 h3
  --the key stands at the end too
  have hend:(es.toList.map (·.key))[l.length]?=some (strV k):=by
   have:=congrArg (fun x:List (Value×Value)=>(x.map (·.1))[l.length]?) he;simp only[List.map_map] at this;have e1:((fun x:Value×Value=>x.1)∘fun e:MapEntry=>(e.key,e.val))=(fun e:MapEntry=>e.key):=rfl;rw[e1] at this;rw[this];simp
  have hat:(es.toList.map (·.key))[j]?=some (strV k):=by rw[List.getElem?_map,h3,Option.map_some,h4]
  have hjl:j=l.length:=by
   obtain⟨q1,q2⟩:=List.getElem?_eq_some_iff.1 hat;obtain⟨q3,q4⟩:=List.getElem?_eq_some_iff.1 hend;exact(List.getElem_inj hst.2.2).1 (q2.trans q4.symm)
  have hjs:j<es.size:=by simpa using hj
  have hsub:(es.eraseIdxIfInBounds j).toList=es.toList.eraseIdx j:=by
   unfold Array.eraseIdxIfInBounds;rw[dif_pos hjs];simp
  have hse:(es.eraseIdxIfInBounds j).size≤es.size:=by
   unfold Array.eraseIdxIfInBounds;rw[dif_pos hjs];simp
  rw[Nat.zero_add] at h2;refine⟨setBlock w b (.map (es.eraseIdxIfInBounds j) clock),?_,⟨es.eraseIdxIfInBounds j,clock,by simp[setBlock,hbl],stamped_erase hst j,Nat.le_trans hse hsz,?_⟩,es,clock,_,_,hb,rfl⟩
  ·simp[Builtin.delete_,run_underlying ht,MapKept.run_getObj_map hb,check_s hk,Instr.findKey,run_underlying hk,h2,MapKept.run_setObj_map _ hb,Result.andThen,setBlock]
  ·rw[hsub]
   have e2:(es.toList.eraseIdx j).map (fun e=>(e.key,e.val))=(es.toList.map (fun e=>(e.key,e.val))).eraseIdx j:=erase_map _ _ _;rw[e2,he,hjl];simp[List.eraseIdx_append_of_length_le]
end
section
variable {P:Program} (w:World) {ops:Array Oper} {rest:List Oper} {o:Oper} {a:Act} {Q:Exit→Act→World→Prop}
theorem wpList_del_last (hg:o.guard=none) (m x:Operand) (t kt:TypeId) (hop:o.op=Op.call {callee:=Callee.builtin Builtin.delete,args:= #[m,x],argTypes:= #[t,kt]}) (et:TypeId) (ht:P.underlying t=some (.map kt et)) (hk:P.underlying kt=some .string)
 (b:Nat) (l:Ents) (k:Pl.Bs) (v:Value) (hm:a.eval m= .map (some b)) (hs:SMap w b (l++[(k,v)])) (hx:a.eval x= .string ⟨k.toArray⟩)
 (hK:∀w',SMap w' b l→w.mapTurned w' b→wpList P ops Q rest (a.put o.dst (.tuple #[])) w'):wpList P ops Q (o::rest) a w:=by
 refine wpList_plain hg fun K' hK' => ?_
 obtain⟨w',hrun,r1,r2⟩:=hs.delLast (ty:=o.type) ht hk;unfold strV at hrun;unfold Oper.wp;simp[execOp,hop,resolve,invoke,builtin,hm,hx,hrun,Result.andThen];exact hK' _ _ (hK w' r1 r2)
end
end Go.Proofs.YtjelacjggijmfaaGreatDoor
