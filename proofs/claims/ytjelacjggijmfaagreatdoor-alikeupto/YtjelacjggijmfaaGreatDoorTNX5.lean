/-
  strings.IndexAny of two signs at every text, also one of few bytes that are no ASCII.
-/
import Derived.Test.YtjelacjggijmfaaGreatDoorTW3
import Derived.Laws.EntriesVeiled
import Derived.Laws.Runes
import Derived.WalkMore
import Derived.BigQuiet
import Derived.Deep.QuietTactic
set_option maxHeartbeats 4000000
set_option maxRecDepth 100000
namespace Go.Proofs.YtjelacjggijmfaaGreatDoor
open Go.RowKit Go.MapKept Go.ChangeMaps Go.Maps
structure SignR (L:NL) (sg:UInt8→Option Cp.Bs) (mk:List Cp.Bs) (refs:Nat) (text:Cp.Bs) (part rest:Cp.Bs) (er refs' :Nat):Prop where
 bad:∀acc full,Mk.has 36 full=true→Mk.after 36 full=text→er≠0→Cp.Exp (nOf L) sg mk refs acc full ⟨[],er,refs'⟩
 good:∀acc full,Mk.has 36 full=true→Mk.after 36 full=text→er=0→∀r,Cp.Exp (nOf L) sg mk refs' (Cp.addB (Cp.addB acc (Mk.before 36 full)) part) rest r→Cp.Exp (nOf L) sg mk refs acc full r
 part_len:part.length≤1073741824
 rest_len:er=0→rest.length<text.length
 refs_le:refs' ≤301
 refs_ok:er=0→refs' ≤300
 refs_ge:refs≤refs'
theorem ofL (s:ByteArray):(⟨s.data.toList.toArray⟩:ByteArray)=s:=by cases s;simp
def sgV (part rest:Cp.Bs) (er:Nat):Value:= .tuple #[.string ⟨part.toArray⟩,.string ⟨rest.toArray⟩,.int .i64 er]
theorem after_len (c:UInt8):∀l:Cp.Bs,(Mk.after c l).length≤l.length-1:=fun l=>by
 unfold Mk.after;have:=(List.dropWhile_sublist (fun x=> !(x==c)) (l:=l)).length_le;rw[List.length_drop];omega
section
variable {c:Cel} {sv:Value} {L:NL} {sg:UInt8→Option Cp.Bs} {SP:World→Prop} {d:Nat}
theorem sign_any (HE:ExpC c sv L sg SP d) (hSg:Sgn c sv sg SP) (hL:Short L) (refs:Nat) (mk:List Cp.Bs) (s:ByteArray) (W:World) (h:ExM c sv L refs mk W) (hSP:SP W) (hd:301≤refs+1+d) (hr:refs≤300) (hmk:mk.length≤refs) (hs:s.size≤1073741824):
 Calls Tryz.prog 198 #[.string s,sv,.func (.func 194) #[] #[.pointer (some ⟨c.r,0,none⟩),.pointer (some ⟨c.n,0,none⟩),.pointer (some ⟨c.l,0,none⟩)]] W fun e W' =>∃(part rest:Cp.Bs) (er refs' :Nat),e= .returned (sgV part rest er)∧SignR L sg mk refs s.data.toList part rest er refs' ∧ExM c sv L refs' mk W' ∧ExT c W W' :=by
 obtain⟨g,caps,rfl,hent,hcall⟩:=hSg.f;have HM:=hide h
 by_cases h0:s.size=0
 ·have hs0:s=⟨#[]⟩:=by cases s;simp_all [ByteArray.size]
  subst hs0
  go_enter Tryz.func198,Tryz.ntmps198
  go_wp2_with fail
  go_ret3
  exact⟨[],[],1,refs,rfl,⟨fun acc full h1 h2 _=>Cp.Exp.nil h1 h2,fun _ _ _ _ e=>by simp at e,by simp,fun e=>by simp at e,by omega,fun e=>by simp at e,Nat.le_refl _⟩,uh HM,Tn.refl _ _⟩
 ·have hpos:0<s.size:=by omega
  have hdc:=data_cons s hpos
  have hne:s.toList.isEmpty=false:=by
   cases hb:s.toList.isEmpty with
   |false=>rfl
   |true=>exact absurd (by have:=empty_of hb;rw[Lib.size_eq,this];rfl) h0
  have hp1:(1:Int)≤(s.size:Int):=by omega
  have hxs:(s.extract 1 s.size).size+1=s.size:=by simp;omega
  have hxl:(s.extract 1 s.size).data.toList.length+1=s.data.toList.length:=by rw[hdc];rfl
  by_cases h36:s[0]=36
  ·have t1:(((s[0]).toNat:Int)==36)=true:=by rw[h36];rfl
   have t1' :((s[0]).toNat:Int)=36:=by rw[h36];rfl
   go_enter Tryz.func198,Tryz.ntmps198
   go_wp2_with fail
   go_region
   all_goals go_wp2_with fail
   all_goals go_ret3
   all_goals exact⟨[36],(s.extract 1 s.size).data.toList,0,refs,by unfold sgV;rw[ofL];rfl,⟨fun _ _ _ _ e=>absurd rfl e,fun acc full h1 h2 _ r hx=>Cp.Exp.dollar h1 (h2.trans (hdc.trans (by rw[h36]))) hx,by simp,fun _=>by omega,by omega,fun _=>hr,Nat.le_refl _⟩,(uh HM).later (Below.refl _ W).drew,Tn.later (Below.refl _ W).drew⟩
  ·have t1:¬((s[0]).toNat:Int)=36:=fun e=>h36 (UInt8.toNat_inj.1 (show (s[0]).toNat=36 by omega))
   have t1' :(((s[0]).toNat:Int)==36)=false:=by simpa using t1
   have CR:Hid (∀W' name,ExM c (.func (.func g) #[] caps) L refs mk W' →SP W' →Calls Tryz.prog 194 #[.string ⟨List.toArray name⟩,.pointer (some ⟨c.r,0,none⟩),.pointer (some ⟨c.n,0,none⟩),.pointer (some ⟨c.l,0,none⟩)] W' fun e W'' =>∃r:Cp.Er,Cp.ReferP (nOf L) sg mk refs name r∧e= .returned (erV r)∧r.txt.length≤1073741824∧r.refs≤301∧(r.er=0→r.refs≤300)∧refs≤r.refs∧ExM c (.func (.func g) #[] caps) L r.refs mk W'' ∧ExT c W' W''):=fun W' name h1 h2=>refer_any HE hSg hL refs mk name W' h1 h2 hd hr hmk
   have hKP:Hid (∀W',Below W.heap.size W W' →ExM c (.func (.func g) #[] caps) L refs mk W' ∧SP W'):=fun W' hb=>⟨h.later hb,hSg.keep _ _ hSP (Tn.later hb)⟩
   have hGL:Hid (Glob W.drew):=h.glob.later (Below.refl _ W).drew;have HCALL:=hide hcall;clear h hcall
   by_cases h40:s[0]=40
   ·have t2:(((s[0]).toNat:Int)==40)=true:=by rw[h40];rfl
    have t2' :((s[0]).toNat:Int)=40:=by rw[h40];rfl
    have hA:∀full,Mk.after 36 full=s.data.toList→Mk.after 36 full=40::(s.extract 1 s.size).data.toList:=fun full e=>e.trans (hdc.trans (by rw[h40]))
    generalize hX:s.extract 1 s.size=X at*;have CC:=hide (lCut 41 X W.drew (by omega) (uh hGL));cases hhas:Mk.has 41 X.data.toList with
    |false=>
     rw[hhas] at CC
     go_enter Tryz.func198,Tryz.ntmps198
     go_wp2_with fail
     go_region
     all_goals go_wp2_with (first|(go_at_call 160;refine(uh CC).mono ?_;rintro e w1 ⟨rfl,hb1⟩)|fail)
     all_goals go_ret3
     all_goals exact⟨[],[],1,refs,rfl,⟨fun acc full h1 h2 _=>Cp.Exp.bad h1 (hA full h2) (.inl hhas),fun _ _ _ _ e=>by simp at e,by simp,fun e=>by simp at e,by omega,fun e=>by simp at e,Nat.le_refl _⟩,(uh hKP _ ((Below.refl _ W).drew.trans hb1)).1,Tn.later ((Below.refl _ W).drew.trans hb1)⟩
    |true=>
     rw[hhas] at CC;have CN:=hide (fun w=>isName_any ⟨(Mk.before 41 X.data.toList).toArray⟩ w);have hlst:(⟨(Mk.before 41 X.data.toList).toArray⟩:ByteArray).data.toList=Mk.before 41 X.data.toList:=by simp
     have hal:=after_len 41 X.data.toList;rw[hlst] at CN;cases hnm:Mk.isName (Mk.before 41 X.data.toList) with
     |false=>
      rw[hnm] at CN
      go_enter Tryz.func198,Tryz.ntmps198
      go_wp2_with fail
      go_region
      all_goals go_wp2_with (first
       |(go_at_call 160;refine(uh CC).mono ?_;rintro e w1 ⟨rfl,hb1⟩)
       |(go_at_call 244;refine(uh CN _).mono ?_;rintro e w2 ⟨rfl,hb2⟩)
       |fail)
      all_goals go_ret3
      all_goals exact⟨[],[],1,refs,rfl,⟨fun acc full h1 h2 _=>Cp.Exp.bad h1 (hA full h2) (.inr hnm),fun _ _ _ _ e=>by simp at e,by simp,fun e=>by simp at e,by omega,fun e=>by simp at e,Nat.le_refl _⟩,(uh hKP _ (((Below.refl _ W).drew.trans hb1).trans (hb2.mono hb1.size))).1,Tn.later (((Below.refl _ W).drew.trans hb1).trans (hb2.mono hb1.size))⟩
     |true=>
      rw[hnm] at CN
      go_enter Tryz.func198,Tryz.ntmps198
      go_wp2_with fail
      go_region
      all_goals go_wp2_with (first
       |(go_at_call 160;refine(uh CC).mono ?_;rintro e w1 ⟨rfl,hb1⟩)
       |(go_at_call 244;refine(uh CN _).mono ?_;rintro e w2 ⟨rfl,hb2⟩;have HB2:=hide (((Below.refl _ W).drew.trans hb1).trans (hb2.mono hb1.size)))
       |(go_at_call 194;refine(uh CR _ _ (uh hKP _ (uh HB2)).1 (uh hKP _ (uh HB2)).2).mono ?_;rintro e w3 ⟨r,hx,rfl,q1,q2,q3,q4,q5,q6⟩;unfold erV;have HX:=hide hx;have HQ5:=hide q5;have HQ6:=hide q6;clear hx q5 q6)
       |fail)
      all_goals go_ret3
      all_goals exact⟨r.txt,Mk.after 41 X.data.toList,r.er,r.refs,rfl,⟨fun acc full h1 h2 e=>(Cp.Exp.ref h1 (hA full h2) hhas hnm (uh HX)).1 e,fun acc full h1 h2 e q hq=>(Cp.Exp.ref h1 (hA full h2) hhas hnm (uh HX)).2 e q hq,q1,fun _=>by omega,q2,q3,q4⟩,uh HQ5,(Tn.later (uh HB2)).trans (uh HQ6)⟩
   ·have t2:¬((s[0]).toNat:Int)=40:=fun e=>h40 (UInt8.toNat_inj.1 (show (s[0]).toNat=40 by omega))
    have t2' :(((s[0]).toNat:Int)==40)=false:=by simpa using t2
    have CS:=hide ((uh HCALL) W.drew (uh hKP _ (Below.refl _ W).drew).2 s[0]);have hA:∀full,Mk.after 36 full=s.data.toList→Mk.after 36 full=s[0]::(s.extract 1 s.size).data.toList:=fun full e=>e.trans hdc
    go_enter Tryz.func198,Tryz.ntmps198
    go_wp2_with fail
    go_region
    all_goals go_wp2_with (first
     |(go_at_fn g;refine(uh CS).mono ?_;rintro e w1 ⟨⟨p,ok,rfl,hsg,hpl⟩,hb1⟩)
     |fail)
    all_goals go_ret3
    all_goals first
     |exact⟨[],[],1,refs,rfl,⟨fun acc full h1 h2 _=>(Cp.Exp.sign (r:=⟨[],1,refs⟩) h1 (hA full h2) h36 h40).1 (by rw[hsg,if_neg (by first|assumption|(rename_i hz;simpa using hz)|(rename_i hz _;simpa using hz))]),fun _ _ _ _ e=>by simp at e,by simp,fun e=>by simp at e,by omega,fun e=>by simp at e,Nat.le_refl _⟩,(uh hKP _ ((Below.refl _ W).drew.trans hb1)).1,Tn.later ((Below.refl _ W).drew.trans hb1)⟩
     |exact⟨p,(s.extract 1 s.size).data.toList,0,refs,by unfold sgV;rw[ofL];rfl,⟨fun _ _ _ _ e=>absurd rfl e,fun acc full h1 h2 _ q hq=>(Cp.Exp.sign h1 (hA full h2) h36 h40).2 p (by rw[hsg,if_pos (by first|assumption|(rename_i hz;simpa using hz)|(rename_i hz _;simpa using hz))]) hq,hpl,fun _=>by omega,by omega,fun _=>hr,Nat.le_refl _⟩,(uh hKP _ ((Below.refl _ W).drew.trans hb1)).1,Tn.later ((Below.refl _ W).drew.trans hb1)⟩
end
theorem Bd.tn {B b:Nat} {acc:List UInt8} {W Z:World} {p:Nat→Prop} (h:Bd B b acc W) (ht:Tn p W Z) (hp:∀k,B≤k→¬p k):Bd B b acc Z:=by
 have hB:B≤b:=by rcases h.bld with h|h<;>exact h.1
 have aux:∀q,Lib.BuilderAtF 319 5 B b q (Lib.byteCells acc) W→Lib.BuilderAtF 319 5 B b q (Lib.byteCells acc) Z:=by
  rintro q ⟨hB,v,hb,⟨hl,hr⟩,hne⟩
  refine⟨hB,v,(ht.block b (Array.getElem?_eq_some_iff.1 hb).1 (hp b hB)).trans hb,⟨hl,?_⟩,hne⟩
  rcases hr with hr|⟨g,cap,cur,fz,hv,hBg,hg,rest⟩
  ·exact .inl hr
  ·exact .inr ⟨g,cap,cur,fz,hv,hBg,(ht.block g (Array.getElem?_eq_some_iff.1 hg).1 (hp g hBg)).trans hg,rest⟩
 refine⟨?_,fun e=> ?_⟩
 ·rcases h.bld with h|h
  ·exact .inl (aux _ h)
  ·exact .inr (aux _ h)
 ·obtain⟨q,hq⟩:=h.nil e
  exact⟨q,(ht.block b (Array.getElem?_eq_some_iff.1 hq).1 (hp b hB)).trans hq⟩
structure CelLt (c:Cel) (B:Nat):Prop where
 n:c.n<B
 s:c.s<B
 r:c.r<B
 m:c.m<B
 e:c.e<B
 l:c.l<B
 f:c.f<B
 nm:c.nm<B
 mm:c.mm<B
section
variable {c:Cel} {sv:Value} {L:NL} {sg:UInt8→Option Cp.Bs} {SP:World→Prop} {d k:Nat} {mk:List Cp.Bs} {W Z:World}
theorem ExM.lt (h:ExM c sv L k mk W):CelLt c W.heap.size:=⟨h.nbox.lt,h.sbox.lt,h.rbox.lt,h.mbox.lt,h.ebox.lt,h.lbox.lt,h.fbox.lt,h.names.lt,h.marks.lt⟩
theorem ExM.below {B:Nat} (h:ExM c sv L k mk W) (hb:Below B W Z) (hc:CelLt c B):ExM c sv L k mk Z:=by
 refine⟨h.nbox.below hb hc.n,h.sbox.below hb hc.s,h.rbox.below hb hc.r,h.mbox.below hb hc.m,h.ebox.below hb hc.e,h.lbox.below hb hc.l,h.fbox.below hb hc.f,h.names.below hb hc.nm,h.marks.below hb hc.mm,h.ne,?_,h.gr⟩;obtain⟨m,hm⟩:=h.glob;exact⟨m,(hb.cell (p:=⟨0,0,none⟩) (Nat.lt_trans h.gr hc.r)).trans hm⟩
theorem Tn.low {p:Nat→Prop} {A:World} (h:Tn p A W) (hb:Below A.heap.size W Z):Tn p A Z:=⟨hb.os.trans h.os,hb.tape.trans h.tape,hb.output.trans h.output,Nat.le_trans h.size hb.size,fun k hk hp=>(hb.block k hk).trans (h.block k hk hp)⟩
theorem told_len (acc:Cp.Bs) (k:Nat):(Cp.toldB acc k).txt.length≤2000∧(Cp.toldB acc k).refs=k:=by
 unfold Cp.toldB;split
 ·exact⟨by simp,rfl⟩
 ·exact⟨by show acc.length≤2000;omega,rfl⟩
structure ExL (c:Cel) (sv:Value) (L:NL) (sg:UInt8→Option Cp.Bs) (mk:List Cp.Bs) (refs:Nat) (text:Cp.Bs) (W:World) (acc t:Cp.Bs) (k:Nat) (wr:World):Prop where
 bd:Bd W.heap.size W.heap.size acc wr
 ex:ExM c sv L k mk wr
 tn:ExT c W wr
 go:∀r,Cp.Exp (nOf L) sg mk k acc t r→Cp.Exp (nOf L) sg mk refs [] text r
theorem exp_step (HE:ExpC c sv L sg SP d) (hSg:Sgn c sv sg SP) (hL:Short L):ExpC c sv L sg SP (d+1):=by
 intro W refs mk text h hSP hd hr hmk htl;have hlt:=h.lt;have hb0:Below W.heap.size W (W.alloc (.cells #[.pointer none,.slice none 0 0] 319)):=(Below.refl _ W).alloc (Nat.le_refl _) _;have HL0:Hid (ExL c sv L sg mk refs text W [] text refs (W.alloc (.cells #[.pointer none,.slice none 0 0] 319))):=⟨Bd.fresh W,h.later hb0,Tn.later hb0,fun r hx=>hx⟩;have HLT:=hide hlt;clear h hb0 hlt
 go_enter Tryz.func195,Tryz.ntmps195
 go_wp2_with fail
 go_loopw [0] (fun tv wr=>∃(t acc:Cp.Bs) (k:Nat),tv= .string ⟨t.toArray⟩∧t.length≤text.length∧k≤300∧refs≤k∧Hid (ExL c sv L sg mk refs text W acc t k wr)) (fun tv _=>strLen tv)
 case atStart=>exact⟨text,[],refs,rfl,Nat.le_refl _,hr,Nat.le_refl _,HL0⟩
 case round=>
  clear HL0;obtain⟨t,acc,k,rfl,htl2,hk3,hrk,HM⟩:=hrel;have hbw:=(uh HM).bd.lt;have hsz:=(uh HM).tn.size;have hsl:(⟨t.toArray⟩:ByteArray).size=t.length:=size_mk t;have htt:(⟨t.toArray⟩:ByteArray).data.toList=t:=mk_list t;have CC:=hide (lCut 36 ⟨t.toArray⟩ wr (by omega) (uh HM).ex.glob);rw[htt] at CC
  have hbl:(Mk.before 36 t).length≤t.length:=by unfold Mk.before;exact(List.takeWhile_prefix _).length_le
  have hal:=after_len 36 t
  --a part is added
  have CA:Hid (∀(W' :World) (acc' part:Cp.Bs),Bd W.heap.size W.heap.size acc' W' →part.length≤1073741824→Calls Tryz.prog 196 #[.pointer (some ⟨W.heap.size,0,none⟩),.string ⟨List.toArray part⟩] W' fun e w' =>e= .returned (.tuple #[])∧Bd W.heap.size W.heap.size (Cp.addB acc' part) w' ∧Below W.heap.size W' w'):=fun W' acc' part hb hp=>by
   have hlt:=hb.lt;refine(bdAdd W.heap.size W.heap.size acc' ⟨List.toArray part⟩ W' hb (by rw[size_mk];omega) (by omega)).mono ?_
   rintro e w' ⟨rfl,h1,h2,_⟩
   rw[mk_list] at h1;exact⟨rfl,h1,h2⟩
  cases hhas:Mk.has 36 t with
  |false=>
   rw[hhas] at CC;have CT:=hide (fun (W' :World) (acc' :Cp.Bs) (hb:Bd W.heap.size W.heap.size acc' W')=>bdTold W.heap.size W.heap.size acc' k W' hb)
   go_wp2_with (first
    |(go_at_call 160;refine(uh CC).mono ?_;rintro e w1 ⟨rfl,hb1⟩;have HB1:=hide ((uh HM).bd.later hb1);have HE1:=hide ((uh HM).ex.later hb1);have HT1:=hide ((uh HM).tn.trans (Tn.later hb1));clear hb1)
    |(go_at_call 196;refine(uh CA _ acc (Mk.before 36 t) (uh HB1) (by omega)).mono ?_;rintro e w2 ⟨rfl,h2,hb2⟩;have HB2:=hide h2;have HE2:=hide ((uh HE1).below hb2 (uh HLT));have HT2:=hide ((uh HT1).low hb2);clear h2 hb2)
    |(go_at_call 197;refine(uh CT _ _ (uh HB2)).mono ?_;rintro e w3 ⟨rfl,hb3⟩;have HE3:=hide ((uh HE2).below hb3 (uh HLT));have HT3:=hide ((uh HT2).low hb3);clear hb3)
    |fail)
   go_ret2
   obtain⟨q1,q2⟩:=told_len (Cp.addB acc (Mk.before 36 t)) k;exact⟨_,(uh HM).go _ (Cp.Exp.free hhas),rfl,q1,by omega,fun _=>by omega,by omega,by rw[q2];exact uh HE3,uh HT3⟩
  |true=>
   rw[hhas] at CC
   have CS:Hid (∀W',ExM c sv L k mk W' →SP W' →Calls Tryz.prog 198 #[.string ⟨(Mk.after 36 t).toArray⟩,sv,.func (.func 194) #[] #[.pointer (some ⟨c.r,0,none⟩),.pointer (some ⟨c.n,0,none⟩),.pointer (some ⟨c.l,0,none⟩)]] W' fun e W'' =>∃(part rest:Cp.Bs) (er refs' :Nat),e= .returned (sgV part rest er)∧SignR L sg mk k (Mk.after 36 t) part rest er refs' ∧ExM c sv L refs' mk W'' ∧ExT c W' W''):=fun W' h1 h2=>by
    have:=sign_any HE hSg hL k mk ⟨(Mk.after 36 t).toArray⟩ W' h1 h2 (by omega) hk3 (by omega) (by rw[size_mk];omega);rw[mk_list] at this;exact this
   have hSPw:Hid (∀W',ExT c W W' →SP W'):=fun W' ht=>hSg.keep _ _ hSP ht
   go_wp2_with (first
    |(go_at_call 160;refine(uh CC).mono ?_;rintro e w1 ⟨rfl,hb1⟩;have HB1:=hide ((uh HM).bd.later hb1);have HE1:=hide ((uh HM).ex.later hb1);have HT1:=hide ((uh HM).tn.trans (Tn.later hb1));clear hb1)
    |(go_at_call_of 196 (Mk.before 36 t);refine(uh CA _ acc (Mk.before 36 t) (uh HB1) (by omega)).mono ?_;rintro e w2 ⟨rfl,h2,hb2⟩;have HB2:=hide h2;have HE2:=hide ((uh HE1).below hb2 (uh HLT));have HT2:=hide ((uh HT1).low hb2);have s0:=(uh HE2).sbox.cell? (i:=0) rfl;have f0:=(uh HE2).fbox.cell? (i:=0) rfl;clear h2 hb2)
    |(go_at_call 198;refine(uh CS _ (uh HE2) (uh hSPw _ (uh HT2))).mono ?_;rintro e w3 ⟨part,rest,er,refs',rfl,hsr,h3,ht3⟩;unfold sgV;have HB3:=hide ((uh HB2).tn ht3 (fun q hq e=>by have h7:=(uh HLT).r;have h8:=(uh HLT).mm;omega));have HE3:=hide h3;have HT3:=hide ((uh HT2).trans ht3);have HSR:=hide hsr;clear h3 ht3 hsr)
    |(go_at_call_of 196 part;refine(uh CA _ _ part (uh HB3) (uh HSR).part_len).mono ?_;rintro e w4 ⟨rfl,h4,hb4⟩;have HB4:=hide h4;have HE4:=hide ((uh HE3).below hb4 (uh HLT));have HT4:=hide ((uh HT3).low hb4);clear h4 hb4)
    |fail)
   ·have her:er≠0:=by first|assumption|(rename_i hz;simpa using hz)|(rename_i hz;omega)
    go_ret2
    exact⟨⟨[],er,refs'⟩,(uh HM).go _ ((uh HSR).bad acc t hhas rfl her),rfl,by simp,(uh HSR).refs_le,fun e=>absurd e her,Nat.le_trans hrk (uh HSR).refs_ge,uh HE3,uh HT3⟩
   ·have her:er=0:=by first|assumption|(rename_i hz;simpa using hz)|(rename_i hz;omega)
    have hrl:=(uh HSR).rest_len her;have hge:=(uh HSR).refs_ge
    go_roundw
    case rel=>exact⟨rest,_,refs',rfl,by omega,(uh HSR).refs_ok her,by omega,uh HB4,uh HE4,uh HT4,fun r hx=>(uh HM).go _ ((uh HSR).good acc t hhas rfl her r hx)⟩
    case measure=>
     show(⟨rest.toArray⟩:ByteArray).size<(⟨t.toArray⟩:ByteArray).size;rw[size_mk,size_mk];omega
end
def pushes (W:World) (os:List Obj):World:=os.foldl World.alloc W
theorem pushes_below:∀(os:List Obj) (W:World),Below W.heap.size W (pushes W os)
 |[],W=>Below.refl _ W
 |o::r,W=>((Below.refl _ W).alloc (Nat.le_refl _) o).trans ((pushes_below r (W.alloc o)).mono (by rw[World.size_alloc];omega))
theorem pushes_get:∀(os:List Obj) (W:World) (i:Nat),i<os.length→(pushes W os).heap[W.heap.size+i]?=os[i]?
 |[],_,_,h=>by simp at h
 |o::r,W,0,_=>by
  show(pushes (W.alloc o) r).heap[W.heap.size]?=some o;have hb:Below (W.alloc o).heap.size (W.alloc o) (pushes (W.alloc o) r):=pushes_below r _;rw[hb.block W.heap.size (by rw[World.size_alloc];omega)];show(W.heap.push o)[W.heap.size]?=some o;simp
 |o::r,W,i+1,h=>by
  have:=pushes_get r (W.alloc o) i (by simpa using h);rw[World.size_alloc] at this;rw[show W.heap.size+(i+1)=W.heap.size+1+i by omega];exact this
theorem exp_all {c:Cel} {sv:Value} {L:NL} {sg:UInt8→Option Cp.Bs} {SP:World→Prop} (hSg:Sgn c sv sg SP) (hL:Short L):∀d,ExpC c sv L sg SP d
 |0=>fun W refs mk text _ _ hd hr _ _=>by omega
 |d+1=>exp_step (exp_all hSg hL d) hSg hL
def celOf (B nm:Nat):Cel:=⟨B,B+1,B+2,B+4,B+5,B+6,B+7,nm,B+3⟩
def fn3 (B:Nat):Value:= .func (.func 195) #[] #[.pointer (some ⟨B+1,0,none⟩),.pointer (some ⟨B+7,0,none⟩)]
def fn1 (B:Nat):Value:= .func (.func 192) #[] #[.pointer (some ⟨B+4,0,none⟩),.pointer (some ⟨B+5,0,none⟩),.pointer (some ⟨B,0,none⟩)]
def fn2 (B:Nat):Value:= .func (.func 194) #[] #[.pointer (some ⟨B+2,0,none⟩),.pointer (some ⟨B,0,none⟩),.pointer (some ⟨B+6,0,none⟩)]
theorem expansion_any (nm:Nat) (sv:Value) (L:NL) (W:World) (g:Fn) (caps:Array Value) (hsv:sv= .func g #[] caps) (hN:SMap W nm (nEnts L)) (hg:Glob W):
 Calls Tryz.prog 146 #[.map (some nm),sv] W fun e W' =>e= .returned (fn3 W.heap.size)∧ExM (celOf W.heap.size nm) sv L 0 [] W' ∧Below W.heap.size W W' :=by
 have hmf:∀(fn:Fn) (first cap:Array Value) (w:World),(Instr.makeFunc fn first cap).run Tryz.prog w= .ok (.func fn first cap) w:=fun _ _ _ _=>rfl
 have hmm:= @run_makeMap Tryz.prog;subst hsv
 go_enter Tryz.func146,Tryz.ntmps146
 go_wp2_with fail
 go_ret
 have hb:=pushes_below [.cells #[.map (some nm)] 137,.cells #[.func g #[] caps] 199,.cells #[.int .i64 0] 3,.map #[] 0,.cells #[.map (some (W.heap.size+3))] 140,.cells #[fn3 W.heap.size] 278,.cells #[fn1 W.heap.size] 278,.cells #[fn2 W.heap.size] 278] W
 have hget:=pushes_get [.cells #[.map (some nm)] 137,.cells #[.func g #[] caps] 199,.cells #[.int .i64 0] 3,.map #[] 0,.cells #[.map (some (W.heap.size+3))] 140,.cells #[fn3 W.heap.size] 278,.cells #[fn1 W.heap.size] 278,.cells #[fn2 W.heap.size] 278] W;have hnlt:=hN.lt
 have hgl:0<W.heap.size:=by
  obtain⟨m,hm⟩:=hg;exact World.block_lt_of_cell? W _ hm
 refine⟨rfl,⟨hget 0 (by simp),hget 1 (by simp),hget 2 (by simp),hget 4 (by simp),hget 5 (by simp),hget 6 (by simp),hget 7 (by simp),hN.later hb,⟨#[],0,hget 3 (by simp),stamped_empty 0,Nat.zero_le _,rfl⟩,?_,hg.later hb,?_⟩,hb⟩
 ·show nm≠W.heap.size+3
  omega
 ·show 0<W.heap.size+2
  omega
theorem expand_any (nm:Nat) (sv:Value) (L:NL) (sg:UInt8→Option Cp.Bs) (SP:World→Prop) (text:Cp.Bs) (W:World) (hSg:∀c:Cel,W.heap.size≤c.r→W.heap.size≤c.mm→Sgn c sv sg SP) (hSP:∀W',Below W.heap.size W W' →SP W') (hL:Short L) (hN:SMap W nm (nEnts L)) (hg:Glob W) (ht:text.length≤1073741824):
 Calls Tryz.prog 94 #[.map (some nm),.string ⟨text.toArray⟩,sv] W fun e W' =>∃r:Cp.Er,Cp.Exp (nOf L) sg [] 0 [] text r∧e= .returned (erV r)∧r.txt.length≤2000∧Below W.heap.size W W' :=by
 have hS:=hSg (celOf W.heap.size nm) (by show W.heap.size≤W.heap.size+2;omega) (by show W.heap.size≤W.heap.size+3;omega);obtain⟨g,caps,hsv,-⟩:=hS.f;subst hsv;have C1:=hide (expansion_any nm (.func (.func g) #[] caps) L W _ caps rfl hN hg)
 have C2:Hid (∀W',ExM (celOf W.heap.size nm) (.func (.func g) #[] caps) L 0 [] W' →SP W' →Calls Tryz.prog 195 #[.string ⟨text.toArray⟩,.pointer (some ⟨W.heap.size+1,0,none⟩),.pointer (some ⟨W.heap.size+7,0,none⟩)] W' fun e W'' =>∃r:Cp.Er,Cp.Exp (nOf L) sg [] 0 [] text r∧e= .returned (erV r)∧r.txt.length≤2000∧ExT (celOf W.heap.size nm) W' W''):=fun W' h1 h2=>by
  refine(exp_all hS hL 301 W' 0 [] text h1 h2 (by omega) (by omega) (by simp) ht).mono ?_
  rintro e W'' ⟨r,q1,q2,q3,_,_,_,_,q8⟩
  exact⟨r,q1,q2,q3,q8⟩
 have HSP:=hide hSP;clear hSg hSP hS hN hg
 go_enter Tryz.func94,Tryz.ntmps94
 go_wp2_with (first
  |(go_at_call 146;refine(uh C1).mono ?_;rintro e w1 ⟨rfl,h1,hb1⟩;unfold fn3;have HE1:=hide h1;have HB1:=hide hb1;clear h1 hb1)
  |(go_at_call 195;refine(uh C2 _ (uh HE1) (uh HSP _ (uh HB1))).mono ?_;rintro e w2 ⟨r,q1,rfl,q3,q4⟩;unfold erV;have HQ1:=hide q1;have HQ4:=hide q4;clear q1 q4)
  |fail)
 go_ret2
 have hsz:=(uh HB1).size
 exact⟨r,uh HQ1,rfl,q3,(uh HB1).trans ((uh HQ4).below hsz (fun k e=>by
  rcases e with e|e
  ·have e' :k=W.heap.size+2:=e
   omega
  ·have e' :k=W.heap.size+3:=e
   omega))⟩
theorem noSigns (c:Cel):Sgn c (.func (.func 225) #[] #[]) (fun _=>none) (fun _=>True):=by
 refine⟨⟨_,_,rfl,enters_of Tryz.func225 (by kernel_rfl) rfl,fun W _ ch=> ?_⟩,fun _ _ _ _=>trivial⟩;show Calls Tryz.prog 225 #[.int .u8 ch.toNat] W _
 go_enter Tryz.func225,Tryz.ntmps225
 go_wp2_with fail
 go_ret2
 exact⟨⟨[],false,rfl,rfl,by simp⟩,Below.refl _ _⟩
end Go.Proofs.YtjelacjggijmfaaGreatDoor
namespace Go.Proofs.YtjelacjggijmfaaGreatDoor
open Go.RowKit
theorem blkI_byte (c:UInt8):blkI c.toNat=Mk.blk c:=by
 rw[Bool.eq_iff_iff];simp[blkI,Mk.blk,←UInt8.toNat_inj];omega
theorem wrap32_byte (c:UInt8):wrap32 (c.toNat:Int)=c.toNat:=by have:=c.toNat_lt;unfold wrap32;omega
def inclRes (l:List UInt8):Value:= .tuple #[.string ⟨(if Mk.isIncl l then Mk.cut (l.drop 7) else []).toArray⟩,.bool (Mk.isIncl l)]
theorem isIncl_cons {l:List UInt8} (hp:Mk.incl.isPrefixOf l=true) {c:UInt8} {r:List UInt8} (h:l.drop 7=c::r):Mk.isIncl l=Mk.blk c:=by
 unfold Mk.isIncl;rw[hp,h];rfl
theorem isIncl_nil {l:List UInt8} (hp:Mk.incl.isPrefixOf l=true) (h:l.drop 7=[]):Mk.isIncl l=true:=by
 unfold Mk.isIncl;rw[hp,h];rfl
theorem afterInclude_any (s:ByteArray) (w:World) (hs:s.size≤4294967296):
 Calls Tryz.prog 161 #[.string s] w fun e w' =>e= .returned (inclRes s.data.toList)∧Below w.heap.size w w' :=by
 cases hp:Mk.incl.isPrefixOf s.data.toList with
 |false=>
  have HI:Hid (Mk.isIncl s.data.toList=false):=by unfold Mk.isIncl;rw[hp];rfl
  have HP:=hide hp;clear hp
  go_enter Tryz.func161,Tryz.ntmps161
  go_wp2_with (go_at_call 126;refine(lCutPrefix_no s ⟨#[105,110,99,108,117,100,101]⟩ _ (uh HP)).mono ?_;rintro e w1 ⟨rfl,rfl⟩)
  go_ret2
  refine⟨?_,Below.refl _ _⟩;unfold inclRes;rw[uh HI];rfl
 |true=>
  obtain⟨t,ht⟩:∃t:ByteArray,s.data.toList.drop 7=t.data.toList:=⟨⟨(s.data.toList.drop 7).toArray⟩,by simp⟩
  have hts:t.size≤4294967296:=by
   have h1:=Lib.size_eq t;have h2:=congrArg List.length ht;have h3:=Lib.size_eq s;rw[List.length_drop] at h2;omega
  have HP:=hide hp;have HT:=hide ht;clear hp ht;cases h0:t.toList.isEmpty with
  |true=>
   have HI:Hid (Mk.isIncl s.data.toList=true):=isIncl_nil (uh HP) (by rw[uh HT];exact empty_of h0)
   go_enter Tryz.func161,Tryz.ntmps161
   go_wp2_with (first
    |(go_at_call 126;refine(lCutPrefix_yes s ⟨#[105,110,99,108,117,100,101]⟩ t _ (uh HP) (uh HT)).mono ?_;rintro e w1 ⟨rfl,rfl⟩)
    |(go_at_call 95;refine(cut_any t _ hts).mono ?_;rintro e w1 ⟨rfl,hb⟩))
   go_ret2
   refine⟨?_,hb⟩;unfold inclRes;rw[uh HI,uh HT];rfl
  |false=>
   have hz:0<t.size:=by
    have:=nonempty_of h0;rw[Lib.size_eq];exact List.length_pos_iff.2 this
   have HC:=hide (data_cons t hz);cases hb:Mk.blk (t[0]'hz) with
   |true=>
    have HI:Hid (Mk.isIncl s.data.toList=true):=by
     show _=_;rw[isIncl_cons (uh HP) ((uh HT).trans (uh HC))];exact hb
    have hbi:blkI (wrap32 (t[0]'hz).toNat)=true:=by rw[wrap32_byte,blkI_byte];exact hb
    go_enter Tryz.func161,Tryz.ntmps161
    go_wp2_with (first
     |(go_at_call 126;refine(lCutPrefix_yes s ⟨#[105,110,99,108,117,100,101]⟩ t _ (uh HP) (uh HT)).mono ?_;rintro e w1 ⟨rfl,rfl⟩)
     |(go_at_call 212;refine(isBlank_any _ _).mono ?_;rintro e w1 ⟨rfl,rfl⟩)
     |(go_at_call 95;refine(cut_any t _ hts).mono ?_;rintro e w1 ⟨rfl,hb⟩))
    go_ret2
    refine⟨?_,hb⟩;unfold inclRes;rw[uh HI,uh HT];rfl
   |false=>
    have HI:Hid (Mk.isIncl s.data.toList=false):=by
     show _=_;rw[isIncl_cons (uh HP) ((uh HT).trans (uh HC))];exact hb
    have hbi:blkI (wrap32 (t[0]'hz).toNat)=false:=by rw[wrap32_byte,blkI_byte];exact hb
    go_enter Tryz.func161,Tryz.ntmps161
    go_wp2_with (first
     |(go_at_call 126;refine(lCutPrefix_yes s ⟨#[105,110,99,108,117,100,101]⟩ t _ (uh HP) (uh HT)).mono ?_;rintro e w1 ⟨rfl,rfl⟩)
     |(go_at_call 212;refine(isBlank_any _ _).mono ?_;rintro e w1 ⟨rfl,rfl⟩))
    go_ret2
    refine⟨?_,Below.refl _ _⟩;unfold inclRes;rw[uh HI];rfl
def kindRes (l:List UInt8):Value:= .tuple #[.int .i64 (Mk.kindOf l).1,.string ⟨(Mk.kindOf l).2.toArray⟩]
theorem kindOf_fixed {l:List UInt8} (h:List.isPrefixOf [58,61] l=true):Mk.kindOf l=(3,l.drop 2):=by
 match l,h with
 |[],h=>simp[List.isPrefixOf] at h
 |[_],h=>simp[List.isPrefixOf] at h
 |a::b::r,h=>
  simp[List.isPrefixOf] at h;obtain⟨rfl,rfl⟩:=h;rfl
theorem kindOf_late {l:List UInt8} (h:List.isPrefixOf [61] l=true):Mk.kindOf l=(4,l.drop 1):=by
 match l,h with
 |[],h=>simp[List.isPrefixOf] at h
 |a::r,h=>
  simp[List.isPrefixOf] at h;subst h;rfl
theorem kindOf_rule {l:List UInt8} (h1:List.isPrefixOf [58,61] l=false) (h2:List.isPrefixOf [61] l=false):Mk.kindOf l=(5,l.tail):=by
 unfold Mk.kindOf;split
 ·simp[List.isPrefixOf] at h1
 ·simp[List.isPrefixOf] at h2
 ·rfl
theorem kindOfSign_any (s:ByteArray) (w:World) (hz:0<s.size):
 Calls Tryz.prog 214 #[.string s] w fun e w' =>e= .returned (kindRes s.data.toList)∧Below w.heap.size w w' :=by
 cases h1:List.isPrefixOf [58,61] s.data.toList with
 |true=>
  have HK:=hide (kindOf_fixed h1);have HP:=hide h1;clear h1
  go_enter Tryz.func214,Tryz.ntmps214
  go_wp2_with (go_at_call 126;refine(lCutPrefix_yes s ⟨#[58,61]⟩ ⟨(s.data.toList.drop 2).toArray⟩ _ (uh HP) (by simp)).mono ?_;rintro e w1 ⟨rfl,rfl⟩)
  go_ret2
  refine⟨?_,Below.refl _ _⟩;unfold kindRes;rw[uh HK];rfl
 |false=>
  have HP:=hide h1;cases h2:List.isPrefixOf [61] s.data.toList with
  |true=>
   have HK:=hide (kindOf_late h2);have HQ:=hide h2;clear h1 h2
   go_enter Tryz.func214,Tryz.ntmps214
   go_wp2_with (first
    |(go_at_call 126;refine(lCutPrefix_no s ⟨#[58,61]⟩ _ (uh HP)).mono ?_;rintro e w1 ⟨rfl,rfl⟩;clear HP)
    |(go_at_call 126;refine(lCutPrefix_yes s ⟨#[61]⟩ ⟨(s.data.toList.drop 1).toArray⟩ _ (uh HQ) (by simp)).mono ?_;rintro e w1 ⟨rfl,rfl⟩))
   go_ret2
   refine⟨?_,Below.refl _ _⟩;unfold kindRes;rw[uh HK];rw[List.drop_one];rfl
  |false=>
   have HK:=hide (kindOf_rule h1 h2);have HQ:=hide h2;clear h1 h2
   go_enter Tryz.func214,Tryz.ntmps214
   go_wp2_with fail
   refine(lCutPrefix_no s ⟨#[58,61]⟩ _ (uh HP)).mono ?_
   rintro e w1 ⟨rfl,rfl⟩
   go_wp2_with fail
   refine(lCutPrefix_no s ⟨#[61]⟩ _ (uh HQ)).mono ?_
   rintro e w1 ⟨rfl,rfl⟩
   go_wp2_with fail
   go_region
   go_wp2
   go_ret2
   refine⟨?_,(Below.refl _ _).drew⟩;unfold kindRes;have ht:s.extract 1 s.size=⟨s.data.toList.tail.toArray⟩:=mk_eq (by rw[Lib.extract_to_end,List.drop_one]);rw[uh HK];show Ending.returned (.tuple #[.int .i64 5,.string (s.extract 1 s.size)])=_;rw[ht];rfl
theorem mayStandAhead_any (n:Int) (k:Nat) (s t:ByteArray) (w:World):
 Calls Tryz.prog 215 #[.agg #[.int .i64 n,.int .i64 k,.string s,.string t]] w fun e w' =>e= .returned (.bool (Mk.mayStand k s.data.toList))∧Below w.heap.size w w' :=by
 go_enter Tryz.func215,Tryz.ntmps215
 go_wp2_with (go_at_call 244;refine(isName_any _ _).mono ?_;rintro e w1 ⟨rfl,hb⟩)
 ·rename_i h
  go_ret
  refine⟨ret_bool ?_,(Below.refl _ w).alloc (Nat.le_refl _) _⟩;rw[Lib.toList_data] at h;have h' :(s.data.toList==Mk.incl)=true:=h;unfold Mk.mayStand;rw[h'];rfl
 ·rename_i h _ _ hk
  go_ret
  refine⟨ret_bool ?_,(Below.refl _ w).alloc (Nat.le_refl _) _⟩;rw[Lib.toList_data] at h;have h' :(s.data.toList==Mk.incl)=false:=h;have hk' :(k==5)=true:=by rw[beq_iff_eq] at hk⊢;omega
  unfold Mk.mayStand;rw[h',hk',Lib.toList_data];rfl
 ·rename_i h hk
  go_ret
  refine⟨ret_bool ?_,below_new hb⟩;rw[Lib.toList_data] at h;have h' :(s.data.toList==Mk.incl)=false:=h;have hk' :(k==5)=false:=by rw[beq_eq_false_iff_ne] at hk⊢;omega
  unfold Mk.mayStand;rw[h',hk'];rfl
theorem indexByte_nil (s:ByteArray) (c:Int) (w:World) (h:s.size=0):
 Calls Tryz.prog 278 #[.string s,.int .u8 c] w fun e w' =>e= .returned (.int .i64 (-1))∧w' =w:=by
 refine(Any.strings_IndexByte Tryz.lay137 s c w).mono ?_
 rintro e w' ⟨rfl,rfl⟩
 have:s.data.toList=[]:=by rw[List.eq_nil_iff_length_eq_zero,←Lib.size_eq];exact h
 rw[this];exact⟨rfl,rfl⟩
theorem indexRune_high (r:Int) (w:World) (h0:128≤r) (h1:r≤1114111):
 Calls Tryz.prog 251 #[.string ⟨#[61,58]⟩,.int .i32 r] w fun e w' =>e= .returned (.int .i64 (-1))∧Below w.heap.size w w' :=by
 by_cases hr:r=65533
 ·subst hr
  go_enter Tryz.func251,Tryz.ntmps251
  go_wp2_with fail
  go_loopw [5,6] (fun _ _ wr=>∃pos:Nat,pos≤2∧wr.heap[w.heap.size]?=some (.stringIter ⟨#[61,58]⟩ pos)∧Below w.heap.size w wr) (fun _ _ wr=>2-wr.iterPos w.heap.size)
  case atStart=>
   exact⟨0,by omega,by simpa using World.iter_heap w ⟨#[61,58]⟩ 0,(Below.refl _ w).alloc (Nat.le_refl _) _⟩
  case round=>
   obtain⟨pos,hp2,hit,hb⟩:=hrel
   by_cases hp:pos<2
   ·have hnx:∀ty,(Instr.next (.pointer (some ⟨w.heap.size,0,none⟩)) true ty).run Tryz.prog wr=_:=fun ty=>Lib.run_next_any_at wr w.heap.size ⟨#[61,58]⟩ pos ty hit hp
    have hdec:(Utf8.decode ⟨#[61,58]⟩ pos).2=1∧(((Utf8.decode ⟨#[61,58]⟩ pos).1:Int)==65533)=false:=by
     rcases(by omega:pos=0∨pos=1) with rfl|rfl<;>decide
    obtain⟨hd1,hd2⟩:=hdec;have hit2:=Lib.iterAt_heap wr w.heap.size ⟨#[61,58]⟩ pos (pos+1) hit;have hb2:=Lib.below_iterAt hb (k:=w.heap.size) (Nat.le_refl _) ⟨#[61,58]⟩ (pos+1);rw[hd1] at hnx;clear hd1
    go_wp2_with fail
    refine⟨⟨pos+1,by omega,hit2,hb2⟩,?_⟩;simp only[World.iterPos,hit2,hit];omega
   ·have hnx:∀ty,(Instr.next (.pointer (some ⟨w.heap.size,0,none⟩)) true ty).run Tryz.prog wr=_:=fun ty=>Lib.run_next_end_at wr w.heap.size ⟨#[61,58]⟩ pos ty hit hp
    go_wp2_with fail
    go_ret
    exact⟨rfl,hb⟩
 have hr' :(r==65533)=false:=by simpa using hr
 have HR:=hide hr;clear hr;cases hv:Lib.validRune r with
 |false=>
  go_enter Tryz.func251,Tryz.ntmps251
  go_wp2_with fail
  refine(Any.utf8_ValidRune Tryz.lay119 _ _).mono ?_
  rintro e w1 ⟨rfl,rfl⟩
  go_wp2_with fail
  go_ret
  exact⟨rfl,Below.refl _ _⟩
 |true=>
  have hv2:Utf8.valid r=true:=by
   rw[validRune_eq];exact hv
  obtain⟨e2,e4,elast⟩:=encode_facts r hv2 h0;have hlt:(Utf8.encode r).size-1<(Utf8.encode r).size:=by omega
  have hl:=elast hlt;clear elast hv2
  go_enter Tryz.func251,Tryz.ntmps251
  go_wp2_with fail
  refine(Any.utf8_ValidRune Tryz.lay119 _ _).mono ?_
  rintro e w1 ⟨rfl,rfl⟩
  by_cases hz:(Utf8.encode r).size=2
  ·have hne:((((⟨#[61,58]⟩:ByteArray)[1]'(by decide)).toNat:Int) !=((Utf8.encode r)[1]'(by omega)).toNat)=true:=by
    have h3:((Utf8.encode r)[(Utf8.encode r).size-1]'hlt)=(Utf8.encode r)[1]'(by omega):=by congr 1;omega
    rw[h3] at hl;rw[bne_iff_ne];show((58:Nat):Int)≠_;omega
   go_wp2_with fail
   go_step3
   go_wp2_with fail
   refine wp_loop_rounds 1 ?_;rw[rounds_succ]
   go_wp2_with fail
   go_step3
   go_wp2_with fail
   go_region
   go_wp2_with fail
   go_region_with (go_at_call 278;refine(indexByte_nil _ _ _ (by simp)).mono ?_;rintro e w2 ⟨rfl,rfl⟩)
   all_goals go_wp2_with fail
   all_goals rw[Exit.noGoto_ret]
   all_goals simp only[Exit.inBlock,Exit.then]
   all_goals rw[Exit.noGoto_ret]
   all_goals go_ret
   all_goals exact⟨rfl,by repeat (first|exact Below.refl _ _|refine Below.drew ?_)⟩
  ·go_wp2_with fail
   go_step3
   go_wp2_with fail
   refine wp_loop_rounds 1 ?_;rw[rounds_succ]
   go_wp2_with fail
   rw[Exit.noGoto_ret]
   go_ret
   exact⟨rfl,Below.refl _ _⟩
end Go.Proofs.YtjelacjggijmfaaGreatDoor
