/-
  What the signs in a node's commands stand for: signsOf.
-/
import Derived.Test.YtjelacjggijmfaaGreatDoorTNB
import Derived.Lib.SpaceUEq
import Derived.Lib.FieldsP
import Derived.Laws.RangeAny
import Derived.Test.YtjelacjggijmfaaGreatDoorTNX5
import Derived.Test.YtjelacjggijmfaaGreatDoorTWRB
set_option maxRecDepth 100000
set_option maxHeartbeats 2000000
namespace Go.Mk
open Go
theorem get_some (s:ByteArray) (i:Nat) (h:i<s.size):s.data.toList[i]?=some (s.get! i):=by
 have hl:i<s.data.toList.length:=by rw[←Lib.size_eq];exact h
 rw[List.getElem?_eq_getElem hl]
 congr 1
 have:=get_at s i h;rw[Nat.add_zero] at this;rw[this];rfl
theorem getElem_get (s:ByteArray) (i:Nat) (h:i<s.size):s.get! i=s[i]'h:=by
 have:=get_at s i h
 rwa [Nat.add_zero] at this
theorem high_bytes (s:ByteArray) (pos:Nat) (h:pos<s.size) (hb:128≤(s[pos]'h).toNat) (j:Nat) (hj:j<(Utf8.decode s pos).2):
 pos+j<s.size∧128≤(s.get! (pos+j)).toNat:=by
 have hc:=Lib.decodeN_conts (s.size-pos) (s.get! pos).toNat (s.get! (pos+1)).toNat (s.get! (pos+2)).toNat (s.get! (pos+3)).toNat;rw[Lib.decode_at] at hj;obtain⟨h1,h2,h3,h4⟩:=hc
 rcases(by omega:j=0∨j=1∨j=2∨j=3) with rfl|rfl|rfl|rfl
 ·rw[Nat.add_zero,getElem_get s pos h];exact⟨h,hb⟩
 ·have:=h1 (by omega);exact⟨by omega,by omega⟩
 ·have:=h2 (by omega);exact⟨by omega,by omega⟩
 ·have:=h3 (by omega);exact⟨by omega,by omega⟩
def blkN (n:Nat):Bool:=n==32||n==9
theorem blkN_byte (c:UInt8):blkN c.toNat=blk c:=by
 rw[Bool.eq_iff_iff];simp[blkN,blk,←UInt8.toNat_inj]
theorem blk_high (c:UInt8) (h:128≤c.toNat):blk c=false:=by
 rw[←blkN_byte];simp[blkN];omega
theorem wordsA_skip:∀(r cur rest:Bs),(∀c∈r,blk c=false)→wordsA cur (r++rest)=wordsA (cur++r) rest
 |[],cur,rest,_=>by simp
 |c::r,cur,rest,h=>by
  have hc:=h c (List.mem_cons_self ..);rw[List.cons_append,wordsA,hc];simp only[Bool.false_eq_true,if_false];rw[wordsA_skip r (cur++[c]) rest (fun x hx=>h x (List.mem_cons_of_mem _ hx))];simp
theorem drop_take_high (s:ByteArray) (pos:Nat) (h:pos<s.size) (hb:128≤(s[pos]'h).toNat):
 ∀c∈(s.data.toList.drop pos).take (Utf8.decode s pos).2,blk c=false:=by
 intro c hc;obtain⟨j,hj,rfl⟩:=List.mem_iff_getElem.1 hc;have hj2:j<(Utf8.decode s pos).2:=by rw[List.length_take] at hj;omega
 obtain⟨h1,h2⟩:=high_bytes s pos h hb j hj2;have h3:=get_some s (pos+j) h1;refine blk_high _ ?_
 have h4:((s.data.toList.drop pos).take (Utf8.decode s pos).2)[j]?=some (s.get! (pos+j)):=by
  rw[List.getElem?_take,if_pos hj2,List.getElem?_drop,h3]
 rw[List.getElem?_eq_getElem hj] at h4;rw[Option.some.inj h4];exact h2
def curOf (l:Bs) (pos:Nat):Option Nat→Bs
 |none=>[]
 |some a=>(l.drop a).take (pos-a)
theorem spans_words (s:ByteArray):∀(f pos:Nat) (st:Option Nat) (acc:List (Nat×Nat)),s.size≤pos+f→pos≤s.size→(∀a,st=some a→a<pos)→
 (Lib.closeSpans s (Lib.spansFromP blkN s f pos st acc)).map (fun x=>(s.extract x.1 x.2).data.toList)=
  acc.map (fun x=>(s.extract x.1 x.2).data.toList)++wordsA (curOf s.data.toList pos st) (s.data.toList.drop pos):=by
 have hsz:=Lib.size_eq s
 have hend:∀(f pos:Nat) (st:Option Nat) (acc:List (Nat×Nat)),¬pos<s.size→pos≤s.size→(∀a,st=some a→a<pos)→
  (Lib.closeSpans s (Lib.spansFromP blkN s f pos st acc)).map (fun x=>(s.extract x.1 x.2).data.toList)=
   acc.map (fun x=>(s.extract x.1 x.2).data.toList)++wordsA (curOf s.data.toList pos st) (s.data.toList.drop pos):=by
  intro f pos st acc hp hle hst;rw[Lib.spansFromP_end _ _ _ _ _ _ hp];have hd:s.data.toList.drop pos=[]:=List.drop_eq_nil_of_le (by omega);rw[hd];have hpe:pos=s.size:=by omega
  cases st with
  |none=>simp[Lib.closeSpans,curOf,wordsA]
  |some a=>
   have ha:=hst a rfl
   have hne:((s.data.toList.drop a).take (pos-a)).isEmpty=false:=by
    rw[List.isEmpty_eq_false_iff];intro h0;have:=congrArg List.length h0;rw[List.length_take,List.length_drop,List.length_nil] at this;omega
   simp only[Lib.closeSpans,List.map_append,List.map_cons,List.map_nil,curOf,wordsA,hne];rw[Lib.extract_data,hpe];simp
 intro f
 induction f with
 |zero=>exact fun pos st acc h hle hst=>hend 0 pos st acc (by omega) hle hst
 |succ f ih=>
  intro pos st acc h hle hst
  by_cases hp:pos<s.size
  ·have hdp:s.data.toList.drop pos=(s[pos]'hp)::s.data.toList.drop (pos+1):=List.drop_eq_getElem_cons (by rw[←hsz];exact hp)
   unfold Lib.spansFromP;rw[if_pos hp]
   by_cases hlow:(s[pos]'hp).toNat<128
   ·rw[decode_ascii s pos hp hlow]
    simp only;rw[blkN_byte];cases hb:blk (s[pos]'hp) with
    |true=>
     rw[hdp,wordsA,hb];simp only[if_true];cases st with
     |none=>
      simp only;rw[ih (pos+1) none acc (by omega) (by omega) (by simp)];simp[curOf]
     |some a=>
      have ha:=hst a rfl
      have hne:((s.data.toList.drop a).take (pos-a)).isEmpty=false:=by
       rw[List.isEmpty_eq_false_iff];intro h0;have:=congrArg List.length h0;rw[List.length_take,List.length_drop,List.length_nil] at this;omega
      simp only;rw[ih (pos+1) none (acc++[(a,pos)]) (by omega) (by omega) (by simp)];simp only[List.map_append,List.map_cons,List.map_nil,curOf,hne];rw[Lib.extract_data];simp
    |false=>
     rw[hdp,wordsA,hb];simp only[Bool.false_eq_true,if_false];cases st with
     |none=>
      simp only;rw[ih (pos+1) (some pos) acc (by omega) (by omega) (by simp)];simp only[curOf,List.nil_append];rw[hdp,show pos+1-pos=1 from by omega];rfl
     |some a=>
      have ha:=hst a rfl;simp only;rw[ih (pos+1) (some a) acc (by omega) (by omega) (by intro b hb';cases hb';omega)];simp only[curOf]
      congr 2
      rw[show pos+1-a=(pos-a)+1 from by omega,List.take_succ_eq_append_getElem (by rw[List.length_drop];omega)]
      congr 2
      rw[List.getElem_drop];show(s.data.toList[a+(pos-a)]'_)=s.data.toList[pos]'_
      congr 1
      omega
   ·have hb:128≤(s[pos]'hp).toNat:=by omega
    have hhi:=(decode_high s pos hp hb).1;have hw:=(decode_high s pos hp hb).2;have hbn:blkN (Utf8.decode s pos).1=false:=by simp[blkN];omega
    have hlast:=(high_bytes s pos hp hb ((Utf8.decode s pos).2-1) (by omega)).1;have hle2:pos+(Utf8.decode s pos).2≤s.size:=by omega
    have hskip:=wordsA_skip ((s.data.toList.drop pos).take (Utf8.decode s pos).2) (curOf s.data.toList pos st) (s.data.toList.drop (pos+(Utf8.decode s pos).2)) (drop_take_high s pos hp hb);rw[←List.drop_drop,List.take_append_drop] at hskip;rw[hbn,hskip,List.drop_drop];simp only[Bool.false_eq_true,if_false];cases st with
    |none=>
     simp only;rw[ih (pos+(Utf8.decode s pos).2) (some pos) acc (by omega) hle2 (by intro b hb';cases hb';omega)];simp only[curOf,List.nil_append];rw[show pos+(Utf8.decode s pos).2-pos=(Utf8.decode s pos).2 from by omega]
    |some a=>
     have ha:=hst a rfl;simp only;rw[ih (pos+(Utf8.decode s pos).2) (some a) acc (by omega) hle2 (by intro b hb';cases hb';omega)];simp only[curOf]
     congr 2
     rw[show pos+(Utf8.decode s pos).2-a=(pos-a)+(Utf8.decode s pos).2 from by omega,List.take_add,List.drop_drop,show a+(pos-a)=pos from by omega]
  ·exact hend (f+1) pos st acc hp hle hst
theorem goFields_words (s:ByteArray):(Lib.goFieldsP blkN s).map (·.data.toList)=words s.data.toList:=by
 have:=spans_words s s.size 0 none [] (by omega) (Nat.zero_le _) (by simp);simp only[List.map_nil,List.nil_append,curOf,List.drop_zero] at this;unfold Lib.goFieldsP Lib.spansOfP words;rw[List.map_map];exact this
end Go.Mk
namespace Go.Proofs.YtjelacjggijmfaaGreatDoor
open Go.RowKit
theorem indexByte_signs (r:Nat) (h:r<128):(decide (0≤Lib.indexByte [61,58] r.toUInt8))= !(Mk.noSign r.toUInt8):=by
 have:∀i:Fin 128,(decide (0≤Lib.indexByte [61,58] i.val.toUInt8))= !(Mk.noSign i.val.toUInt8):=by decide
 exact this ⟨r,h⟩
theorem toUInt8_toNat (c:UInt8):c.toNat.toUInt8=c:=by simp
theorem indexRune_low (c:UInt8) (w:World) (h:c.toNat<128):
 Calls Tryz.prog 251 #[.string ⟨#[61,58]⟩,.int .i32 c.toNat] w fun e w' =>∃q:Int,e= .returned (.int .i64 q)∧(decide (0≤q)= !Mk.noSign c)∧w=w' :=by
 refine(Any.strings_IndexRune_ascii Tryz.lay152 ⟨#[61,58]⟩ c.toNat w (by omega) (by omega)).mono ?_
 rintro e w' ⟨rfl,rfl⟩
 refine⟨_,rfl,?_,rfl⟩;have:=indexByte_signs c.toNat h;rw[toUInt8_toNat] at this;rw[←this];simp
theorem signs_byte (c:UInt8):[61,58].contains c= !(Mk.noSign c):=by
 simp only[Mk.noSign,List.contains_cons,List.contains_nil,Bool.or_false,Bool.not_not]
theorem noSign_high (c:UInt8) (h:128≤c.toNat):Mk.noSign c=true:=by
 simp only[Mk.noSign,Bool.not_eq_true',Bool.or_eq_false_iff,beq_eq_false_iff_ne];exact⟨fun e=>by subst e;simp at h,fun e=>by subst e;simp at h⟩
theorem noAny_more (s:ByteArray) (pos:Nat) (hp:pos<s.size) (hb:128≤(s[pos]'hp).toNat) (h:Lib.NoAny s.data.toList [61,58] pos):
 Lib.NoAny s.data.toList [61,58] (pos+(Utf8.decode s pos).2):=fun j b hj hjb=>by
 by_cases hlt:j<pos
 ·exact h j b hlt hjb
 ·obtain⟨h1,h2⟩:=Mk.high_bytes s pos hp hb (j-pos) (by omega)
  rw[show pos+(j-pos)=j from by omega] at h1 h2;rw[Mk.get_some s j h1] at hjb;cases hjb;rw[signs_byte,noSign_high _ h2];rfl
theorem decode_max (s:ByteArray) (pos:Nat):(Utf8.decode s pos).1≤1114111:=by
 rw[Lib.decode_at];unfold Lib.decodeN
 repeat' split
 all_goals(simp only;omega)
theorem indexAny_short (s:ByteArray) (w:World) (h8:s.size≤8):
 Calls Tryz.prog 213 #[.string s,.string ⟨#[61,58]⟩] w fun e w' =>e= .returned (.int .i64 (Lib.indexAny s.data.toList [61,58]))∧Below w.heap.size w w' :=by
 go_enter Tryz.func213,Tryz.ntmps213
 go_wp2_with (go_at_call 252;go_in)
 go_loopw [9,10] (fun _ _ wr=>∃pos:Nat,wr.heap[w.heap.size]?=some (.stringIter s pos)∧Below w.heap.size w wr∧Lib.NoAny s.data.toList [61,58] pos) (fun _ _ wr=>s.size-wr.iterPos w.heap.size)
 case atStart=>
  exact⟨0,by simpa using World.iter_heap w s 0,(Below.refl _ w).alloc (Nat.le_refl _) _,Lib.NoAny.zero _ _⟩
 case round=>
  obtain⟨pos,hit,hb,hno⟩:=hrel;have HN:=hide hno;clear hno;have hsz:w.heap.size<wr.heap.size:=(Array.getElem?_eq_some_iff.1 hit).1
  by_cases hp:pos<s.size
  ·have hnx:∀ty,(Instr.next (.pointer (some ⟨w.heap.size,0,none⟩)) true ty).run Tryz.prog wr=_:=fun ty=>Lib.run_next_any_at wr w.heap.size s pos ty hit hp
   have hx:=Mk.get_some s pos hp;rw[Mk.getElem_get s pos hp] at hx;have HX:=hide hx;clear hx;have hwd:=width_pos s pos hp;have hit2:=Lib.iterAt_heap wr w.heap.size s pos (pos+(Utf8.decode s pos).2) hit;have hb2:=Lib.below_iterAt hb (k:=w.heap.size) (Nat.le_refl _) s (pos+(Utf8.decode s pos).2)
   have hsz2:w.heap.size<(wr.iterAt w.heap.size s (pos+(Utf8.decode s pos).2)).heap.size:=by rw[Lib.iterAt_size];omega
   by_cases hlow:(s[pos]'hp).toNat<128
   ·have hd:=decode_ascii s pos hp hlow
    rw[hd] at hnx hit2 hb2 hsz2 hwd;simp only at hnx hit2 hb2 hsz2 hwd;clear hd;cases hsg:Mk.noSign (s[pos]'hp) with
    |true=>
     go_wp2_with fail
     refine(indexRune_low _ _ hlow).mono ?_
     rintro e w1 ⟨q,rfl,hq,rfl⟩
     have hq' :q<0:=by rw[hsg] at hq;simpa using hq
     clear hq
     go_wp2_with fail
     refine⟨⟨pos+1,hit2,hb2,(uh HN).succ (uh HX) (by rw[signs_byte,hsg];rfl)⟩,?_⟩;simp only[World.iterPos,hit2,hit];omega
    |false=>
     go_wp2_with fail
     refine(indexRune_low _ _ hlow).mono ?_
     rintro e w1 ⟨q,rfl,hq,rfl⟩
     have hq' :0≤q:=by rw[hsg] at hq;simpa using hq
     clear hq
     go_wp2_with fail
     go_ret
     exact⟨ret_int (Lib.indexAny_hit (uh HN) (uh HX) (by rw[signs_byte,hsg];rfl)).symm,hb2⟩
   ·have hhi:128≤(s[pos]'hp).toNat:=by omega
    have hno2:=hide (noAny_more s pos hp hhi (uh HN));have hd1:=(decode_high s pos hp hhi).1;have hd2:=decode_max s pos
    go_wp2_with fail
    refine(indexRune_high _ _ (by omega) (by omega)).mono ?_
    rintro e w1 ⟨rfl,hbx⟩
    have hit3:w1.heap[w.heap.size]?=some (.stringIter s (pos+(Utf8.decode s pos).2)):=(hbx.block _ hsz2).trans hit2;have hb3:Below w.heap.size w w1:=hb2.trans (hbx.mono (by omega));clear hbx hb2
    go_wp2_with fail
    refine⟨⟨_,hit3,hb3,uh hno2⟩,?_⟩;simp only[World.iterPos,hit3,hit];omega
  ·have hnx:∀ty,(Instr.next (.pointer (some ⟨w.heap.size,0,none⟩)) true ty).run Tryz.prog wr=_:=fun ty=>Lib.run_next_end_at wr w.heap.size s pos ty hit hp
   go_wp2_with fail
   go_ret
   refine⟨ret_int (Lib.indexAny_none ?_).symm,hb⟩;intro j b hj hjb;exact(uh HN) j b (by have:=Lib.size_eq s;omega) hjb
theorem indexAny_any (s:ByteArray) (w:World) (hs:s.size≤4294967200):
 Calls Tryz.prog 213 #[.string s,.string ⟨#[61,58]⟩] w fun e w' =>e= .returned (.int .i64 (Lib.indexAny s.data.toList [61,58]))∧Below w.heap.size w w' :=by
 by_cases h8:s.size≤8
 ·exact indexAny_short s w h8
 ·have hz:(Tryz.prog.info? (Tryz.ren.t 116)).map (fun i=>(i.zero,i.size))=some (some (.agg (Array.replicate 256 (.bool false))),256):=by kernel_rfl
  refine(Any.strings_IndexAny_long Tryz.lay153 (zero_of_info hz).1 (zero_of_info hz).2 s ⟨#[61,58]⟩ w (by decide) (by omega) (by omega) (by decide) (ascii_of_all (by decide))).mono ?_
  rintro e w' ⟨rfl,rfl⟩
  exact⟨rfl,((Below.refl _ w).alloc (Nat.le_refl _) _).alloc (by simp) _⟩
theorem indexAny_take:∀l:List UInt8,(Lib.indexAny l [61,58]= -1∧(l.dropWhile Mk.noSign)=[])∨(Lib.indexAny l [61,58]=(l.takeWhile Mk.noSign).length∧(l.dropWhile Mk.noSign)≠[])
 |[]=> .inl ⟨rfl,rfl⟩
 |b::r=>by
  rw[Lib.indexAny,signs_byte,List.dropWhile_cons,List.takeWhile_cons];cases hb:Mk.noSign b with
  |false=>exact .inr (by simp)
  |true=>
   simp only[Bool.not_true,Bool.false_eq_true,if_false,if_true]
   rcases indexAny_take r with⟨h1,h2⟩|⟨h1,h2⟩
   ·rw[h1];exact .inl ⟨rfl,h2⟩
   ·rw[h1]
    have hne:(((r.takeWhile Mk.noSign).length:Int)== -1)=false:=by rw[beq_eq_false_iff_ne];omega
    rw[hne];exact .inr ⟨by simp,h2⟩
def lineRes (r:Mk.Ln×Nat):Value:= .tuple #[lnV r.1,.int .i64 r.2]
theorem parseSides_none {l:List UInt8} (h:l.dropWhile Mk.noSign=[]):Mk.parseSides l=(Mk.Ln.zero,1):=by
 unfold Mk.parseSides;rw[h];rfl
theorem zeroV:lnV Mk.Ln.zero= .agg #[.int .i64 0,.int .i64 0,.string ⟨#[]⟩,.string ⟨#[]⟩]:=rfl
theorem parseSides_any (s:ByteArray) (w:World) (hs:s.size≤4294967200):
 Calls Tryz.prog 163 #[.string s] w fun e w' =>e= .returned (lineRes (Mk.parseSides s.data.toList))∧Below w.heap.size w w' :=by
 rcases indexAny_take s.data.toList with⟨h1,h2⟩|⟨h1,h2⟩
 ·have HR:=hide (parseSides_none h2)
  have HI:=hide h1;clear h1 h2
  go_enter Tryz.func163,Tryz.ntmps163
  go_wp2_with (go_at_call 213;refine(indexAny_any _ _ hs).mono ?_;rintro e w1 ⟨rfl,hb⟩;rw[uh HI];obtain⟨hc,hf⟩:=bcell hb)
  refine bodyPost_ret (v:=lineRes (Mk.parseSides s.data.toList)) ?_ rfl ⟨rfl,below4 (below_new hb) (Nat.le_refl _) _ _ _ _⟩;rw[uh HR];simp[results,Tryz.results163,go_sem,hc,lineRes,zeroV]
 ·obtain⟨n,hn⟩:∃n,n=(s.data.toList.takeWhile Mk.noSign).length:=⟨_,rfl⟩
  rw[←hn] at h1;have hsz:=Lib.size_eq s
  have hlt:n<s.size:=by
   have h3:=congrArg List.length (List.takeWhile_append_dropWhile (p:=Mk.noSign) (l:=s.data.toList));rw[List.length_append] at h3;have h4:=List.length_pos_iff.2 h2;omega
  have HI:=hide h1
  have hd:(s.extract n s.size).data.toList=s.data.toList.dropWhile Mk.noSign:=by
   rw[Lib.extract_to_end,hn];have h3:=List.takeWhile_append_dropWhile (p:=Mk.noSign) (l:=s.data.toList)
   conv=>lhs;arg 2;rw[←h3]
   exact List.drop_left
  have ht:(s.extract 0 n).data.toList=s.data.toList.takeWhile Mk.noSign:=by
   rw[Lib.extract_data,List.drop_zero,Nat.sub_zero,hn];have h3:=List.takeWhile_append_dropWhile (p:=Mk.noSign) (l:=s.data.toList)
   conv=>lhs;arg 2;rw[←h3]
   exact List.take_left
  have HD:=hide hd;have HT:=hide ht;have HN:=hide h2;have hxs:(s.extract n s.size).size=s.size-n:=by simp
  have hys:(s.extract 0 n).size=n:=by simp;omega
  clear h1 h2 hn hsz hd ht
  go_enter Tryz.func163,Tryz.ntmps163
  go_wp2_with fail
  refine(indexAny_any _ _ hs).mono ?_
  rintro e w1 ⟨rfl,hb1⟩
  rw[uh HI];have hB1:=(Box4.new w 164 _ _ _ _).later hb1;have hb1' :=below_new hb1;clear hb1
  go_wp2_with fail
  refine(kindOfSign_any _ _ (by omega)).mono ?_
  rintro e w2 ⟨rfl,hb2⟩
  have hB2:=hB1.later hb2;have hb2' :=hb1'.trans (hb2.mono hb1'.size);clear hb2 hB1 hb1';unfold kindRes;rw[uh HD];obtain⟨k,hk⟩:∃k,k=(Mk.kindOf (s.data.toList.dropWhile Mk.noSign)).1:=⟨_,rfl⟩;obtain⟨t,htt⟩:∃t:List UInt8,t=(Mk.kindOf (s.data.toList.dropWhile Mk.noSign)).2:=⟨_,rfl⟩;rw[←hk,←htt]
  have htl:t.length≤4294967200:=by
   have h5:=Mk.kindOf_le (s.data.toList.dropWhile Mk.noSign);have h6:=Mk.dropWhile_le Mk.noSign s.data.toList;have h7:=Lib.size_eq s;rw[htt];omega
  have HK:=hide hk;have HTT:=hide htt;clear hk htt
  go_wp2_with fail
  refine(cut_any _ _ (by omega)).mono ?_
  rintro e w3 ⟨rfl,hb3⟩
  have hB3:=hB2.later hb3;have hb3' :=hb2'.trans (hb3.mono hb2'.size);clear hb3 hB2 hb2';rw[uh HT]
  go_wp2_with fail
  refine(cut_any ⟨t.toArray⟩ _ (by rw[size_mk];omega)).mono ?_
  rintro e w4 ⟨rfl,hb4⟩
  have hB4:=hB3.later hb4;have hb4' :=hb3'.trans (hb4.mono hb3'.size);clear hb4 hB3 hb3';simp only
  have HP:Hid (Mk.parseSides s.data.toList=if Mk.mayStand k (Mk.cut (s.data.toList.takeWhile Mk.noSign)) then(⟨0,k,Mk.cut (s.data.toList.takeWhile Mk.noSign),Mk.cut t⟩,0) else(Mk.Ln.zero,1)):=by
   show _=_;unfold Mk.parseSides;have h8:(s.data.toList.dropWhile Mk.noSign).isEmpty=false:=by simpa using uh HN
   rw[h8,←uh HK,←uh HTT];rfl
  generalize Mk.cut (s.data.toList.takeWhile Mk.noSign)=L at*;generalize Mk.cut t=R at*;clear HK HTT HN HT HD HI hxs hys htl
  go_wp2_with fail
  refine(mayStandAhead_any 0 k ⟨L.toArray⟩ ⟨R.toArray⟩ _).mono ?_
  rintro e w5 ⟨rfl,hb5⟩
  have hB5:=(hB4.alloc _).later hb5;have hC5:=(Box4.new w4 164 _ _ _ _).later hb5;have hb5' :=hb4'.trans ((below_new hb5).mono hb4'.size);clear hb5 hB4 hb4';simp only;obtain⟨⟨c0,c1,c2,c3⟩,⟨f0,f1,f2,f3⟩⟩:=hB5.cells;obtain⟨⟨d0,d1,d2,d3⟩,-⟩:=hC5.cells;clear hB5 hC5;cases hm:Mk.mayStand k L with
  |true=>
   go_wp2_with fail
   refine bodyPost_ret (v:=lineRes (Mk.parseSides s.data.toList)) ?_ rfl ⟨rfl,below4 hb5' (Nat.le_refl _) _ _ _ _⟩;rw[uh HP,hm];simp[results,Tryz.results163,go_sem,c0,c1,c2,c3,lineRes,lnV]
  |false=>
   go_wp2_with fail
   refine bodyPost_ret (v:=lineRes (Mk.parseSides s.data.toList)) ?_ rfl ⟨rfl,below4 hb5' (Nat.le_refl _) _ _ _ _⟩;rw[uh HP,hm];simp[results,Tryz.results163,go_sem,c0,c1,c2,c3,lineRes,zeroV]
theorem before_le (c:UInt8) (l:List UInt8):(Mk.before c l).length≤l.length:=by unfold Mk.before;exact(List.takeWhile_prefix _).length_le
theorem parse_any (s:ByteArray) (w:World) (hs:s.size≤4294967200) (hg:Glob w):
 Calls Tryz.prog 121 #[.string s] w fun e w' =>e= .returned (lineRes (Mk.parse s.data.toList))∧Below w.heap.size w w' :=by
 cases hp:List.isPrefixOf [9] s.data.toList with
 |true=>
  have HP:Hid (Mk.parse s.data.toList=(Mk.parseCmd s.data.toList,0)):=by show _=_;unfold Mk.parse;rw[hp];rfl
  have HQ:=hide hp;clear hp hg
  go_enter Tryz.func121,Tryz.ntmps121
  go_wp2_with fail
  refine(lHasPrefix s ⟨#[9]⟩ _).mono ?_
  rintro e w1 ⟨rfl,rfl⟩
  rw[show List.isPrefixOf (⟨#[9]⟩:ByteArray).data.toList s.data.toList=true from uh HQ]
  go_wp2_with fail
  refine(parseCommand_any _ _).mono ?_
  rintro e w2 ⟨rfl,hb⟩
  have hB:=(Box4.new w 164 _ _ _ _).later hb;have hb' :=below_new hb;clear hb;obtain⟨⟨c0,c1,c2,c3⟩,⟨f0,f1,f2,f3⟩⟩:=hB.cells;unfold lnV
  go_wp2_with fail
  refine bodyPost_ret (v:=lineRes (Mk.parse s.data.toList)) ?_ rfl ⟨rfl,below4 hb' (Nat.le_refl _) _ _ _ _⟩;rw[uh HP];simp[results,Tryz.results121,go_sem,c0,c1,c2,c3,lineRes,lnV]
 |false=>
  obtain⟨T,hT⟩:∃T,T=Mk.cut (Mk.before 35 s.data.toList):=⟨_,rfl⟩
  have hTl:T.length≤4294967200:=by
   have h1:=Mk.cut_le (Mk.before 35 s.data.toList);have h2:=before_le 35 s.data.toList;have h3:=Lib.size_eq s;rw[hT];omega
  have hbl:(⟨(Mk.before 35 s.data.toList).toArray⟩:ByteArray).size≤4294967296:=by
   have h2:=before_le 35 s.data.toList;have h3:=Lib.size_eq s;rw[size_mk];omega
  have HP:Hid (Mk.parse s.data.toList=if T.isEmpty then(Mk.Ln.zero,0) else if Mk.isIncl T then Mk.parseIncl (Mk.cut (T.drop 7)) else Mk.parseSides T):=by
   show _=_;unfold Mk.parse;rw[hp,hT];rfl
  have HQ:=hide hp;have HT:=hide hT;clear hp hT
  go_enter Tryz.func121,Tryz.ntmps121
  go_wp2_with fail
  refine(lHasPrefix s ⟨#[9]⟩ _).mono ?_
  rintro e w1 ⟨rfl,rfl⟩
  rw[show List.isPrefixOf (⟨#[9]⟩:ByteArray).data.toList s.data.toList=false from uh HQ]
  go_wp2_with fail
  refine(lCut 35 s _ hs (hg.later ((Below.refl _ w).alloc (Nat.le_refl _) _))).mono ?_
  rintro e w2 ⟨rfl,hb2⟩
  have hB2:=(Box4.new w 164 _ _ _ _).later hb2;have hb2' :=below_new hb2;clear hb2 hg;generalize Mk.after 35 s.data.toList=q;generalize Mk.has 35 s.data.toList=q2
  go_wp2_with fail
  refine(cut_any _ _ hbl).mono ?_
  rintro e w3 ⟨rfl,hb3⟩
  have hB3:=hB2.later hb3;have hb3' :=hb2'.trans (hb3.mono hb2'.size);clear hb3 hB2 hb2';rw[show Mk.cut (⟨(Mk.before 35 s.data.toList).toArray⟩:ByteArray).data.toList=T from(uh HT).symm];generalize (⟨(Mk.before 35 s.data.toList).toArray⟩:ByteArray)=B at*;cases he:T.isEmpty with
  |true=>
   obtain⟨⟨c0,c1,c2,c3⟩,⟨f0,f1,f2,f3⟩⟩:=hB3.cells
   go_wp2_with fail
   refine bodyPost_ret (v:=lineRes (Mk.parse s.data.toList)) ?_ rfl ⟨rfl,below4 hb3' (Nat.le_refl _) _ _ _ _⟩;rw[uh HP,he];simp[results,Tryz.results121,go_sem,c0,c1,c2,c3,lineRes,zeroV]
  |false=>
   go_wp2_with fail
   refine(afterInclude_any ⟨T.toArray⟩ _ (by rw[size_mk];omega)).mono ?_
   rintro e w4 ⟨rfl,hb4⟩
   have hB4:=hB3.later hb4;have hb4' :=hb3'.trans (hb4.mono hb3'.size);clear hb4 hB3 hb3';unfold inclRes;simp only;cases hi:Mk.isIncl T with
   |true=>
    go_wp2_with fail
    refine(parseInclude_any ⟨(Mk.cut (T.drop 7)).toArray⟩ _).mono ?_
    rintro e w5 ⟨rfl,hb5⟩
    have hB5:=hB4.later hb5;have hb5' :=hb4'.trans (hb5.mono hb4'.size);clear hb5 hB4 hb4';obtain⟨⟨c0,c1,c2,c3⟩,⟨f0,f1,f2,f3⟩⟩:=hB5.cells;unfold lnV
    go_wp2_with fail
    refine bodyPost_ret (v:=lineRes (Mk.parse s.data.toList)) ?_ rfl ⟨rfl,below4 hb5' (Nat.le_refl _) _ _ _ _⟩;rw[uh HP,he,hi];simp[results,Tryz.results121,go_sem,c0,c1,c2,c3,lineRes,lnV]
   |false=>
    go_wp2_with fail
    refine(parseSides_any ⟨T.toArray⟩ _ (by rw[size_mk];omega)).mono ?_
    rintro e w5 ⟨rfl,hb5⟩
    have hB5:=hB4.later hb5;have hb5' :=hb4'.trans (hb5.mono hb4'.size);clear hb5 hB4 hb4';obtain⟨⟨c0,c1,c2,c3⟩,⟨f0,f1,f2,f3⟩⟩:=hB5.cells;unfold lineRes lnV
    go_wp2_with fail
    refine bodyPost_ret (v:=lineRes (Mk.parse s.data.toList)) ?_ rfl ⟨rfl,below4 hb5' (Nat.le_refl _) _ _ _ _⟩;rw[uh HP,he,hi];simp[results,Tryz.results121,go_sem,c0,c1,c2,c3,lineRes,lnV]
theorem blkI_nat (n:Nat):blkI n=Mk.blkN n:=by
 rw[Bool.eq_iff_iff];simp[blkI,Mk.blkN];omega
theorem isBlank_pred (w:World):PredAt Tryz.prog 212 #[] encR Mk.blkN w:=fun W x _=>by
 refine(isBlank_any x W).mono ?_
 rintro e w' ⟨rfl,rfl⟩
 exact⟨ret_bool (blkI_nat x),0,rfl⟩
theorem words_any (s:ByteArray) (w:World) (hs:s.size≤4294967296):
 Calls Tryz.prog 166 #[.string s] w fun e w' =>∃A,e= .returned (.slice (some ⟨A,0,none⟩) (Lib.goFieldsP Mk.blkN s).length (Lib.goFieldsP Mk.blkN s).length)∧
  w'.ownsRow w.heap.size 9 1 (.slice (some ⟨A,0,none⟩) (Lib.goFieldsP Mk.blkN s).length (Lib.goFieldsP Mk.blkN s).length) (Lib.goFieldsP Mk.blkN s).length ((Lib.goFieldsP Mk.blkN s).map Value.string)∧Below w.heap.size w w' :=by
 have hff:=Any.strings_FieldsFunc Tryz.lay229 212 #[] (enters_of Tryz.func212 (by kernel_rfl) rfl) Mk.blkN s w hs (isBlank_pred w) (by kernel_rfl) (by kernel_rfl)
 go_enter Tryz.func166,Tryz.ntmps166
 go_wp2_with (go_at_call 216;refine hff.mono ?_;rintro e w1 ⟨A,rfl,-,h2,h3⟩)
 go_ret
 exact⟨A,rfl,h2,h3⟩
end Go.Proofs.YtjelacjggijmfaaGreatDoor
namespace Go.Proofs.YtjelacjggijmfaaGreatDoor
open Go.RowKit Go.MapKept Go.ChangeMaps Go.Maps
theorem joinB_any (xs:List Pl.Bs) (a:Option Addr) (cap b o:Nat) (W:World) (ha:0<xs.length→a=some ⟨b,o,none⟩∧RdN W b o xs) (hbW:0<xs.length→b<W.heap.size) (hc:xs.length≤cap) (hl:(Lib.join xs [32]).length≤1073741824) (hn:xs.length≤1073741824):
 Calls Tryz.prog 144 #[.slice a xs.length cap,.string ⟨#[32]⟩] W fun e w' =>e= .returned (.string ⟨(Lib.join xs [32]).toArray⟩)∧Below W.heap.size W w' :=by
 by_cases h0:0<xs.length
 ·obtain⟨rfl,hr⟩:=ha h0
  have hm:(xs.map fun x=>(⟨x.toArray⟩:ByteArray)).map (fun y:ByteArray=>y.data.toList)=xs:=by
   rw[List.map_map];exact(List.map_congr_left (fun x _=>rfl)).trans (List.map_id xs)
  have:=Any.strings_Join Tryz.lay156 Tryz.layX b o cap (xs.map fun x=>(⟨x.toArray⟩:ByteArray)) ⟨#[32]⟩ W (fun j x hx=>by
   rw[List.getElem?_map] at hx;cases hj:xs[j]? with
   |none=>rw[hj] at hx;cases hx
   |some y=>
    rw[hj] at hx;cases hx
    exact hr j y hj) (hbW h0) (by rw[List.length_map];omega) (by rw[List.length_map];exact hc) (by rw[hm];show(Lib.join xs [32]).length≤_;omega)
  rw[List.length_map,hm] at this;exact this
 ·have:xs=[]:=List.eq_nil_of_length_eq_zero (by omega)
  subst this;refine(Any.strings_Join_none Tryz.lay156 Tryz.layX a cap ⟨#[32]⟩ W).mono ?_
  rintro e w' ⟨rfl,rfl⟩
  exact⟨rfl,Below.refl _ _⟩
def sgOf (name first all stem:Pl.Bs) (ch:UInt8):Option Pl.Bs:=if ch=64 then some name else if ch=60 then some first else if ch=94 then some all else if ch=42 then some stem else none
structure SgM (nb f al:Nat) (name:Pl.Bs) (ph:Bool) (v1 v2:Value) (first all stem:Pl.Bs) (W:World):Prop where
 node:Row W nb 197 [strV name,.bool ph,v1,v2,strV stem]
 first:Row W f 9 [strV first]
 all:Row W al 9 [strV all]
theorem SgM.later {nb f al:Nat} {name first all stem:Pl.Bs} {ph:Bool} {v1 v2:Value} {W W' :World} (h:SgM nb f al name ph v1 v2 first all stem W) (hb:Below W.heap.size W W'):SgM nb f al name ph v1 v2 first all stem W' :=⟨h.node.later hb,h.first.later hb,h.all.later hb⟩
def signV (nb f al:Nat):Value:= .func (.func 145) #[] #[.pointer (some ⟨nb,0,none⟩),.pointer (some ⟨f,0,none⟩),.pointer (some ⟨al,0,none⟩)]
theorem sgn_of (c:Cel) (nb f al H:Nat) (name first all stem:Pl.Bs) (ph:Bool) (v1 v2:Value) (h1:nb<H) (h2:f<H) (h3:al<H) (h4:H≤c.r) (h5:H≤c.mm) (l1:name.length≤1073741824) (l2:first.length≤1073741824) (l3:all.length≤1073741824) (l4:stem.length≤1073741824):
 Sgn c (signV nb f al) (sgOf name first all stem) (SgM nb f al name ph v1 v2 first all stem):=by
 refine⟨⟨_,_,rfl,enters_of Tryz.func145 (by kernel_rfl) rfl,fun W hS ch=> ?_⟩,fun W W' h ht=>⟨h.node.tn ht (by omega),h.first.tn ht (by omega),h.all.tn ht (by omega)⟩⟩;show Calls Tryz.prog 145 #[.int .u8 ch.toNat,.pointer (some ⟨nb,0,none⟩),.pointer (some ⟨f,0,none⟩),.pointer (some ⟨al,0,none⟩)] W _;have c0:=hS.node.cell? (i:=0) rfl;have c4:=hS.node.cell? (i:=4) rfl
 have cf:=hS.first.cell? (i:=0) rfl;have ca:=hS.all.cell? (i:=0) rfl
 have hne:∀(k:UInt8),ch≠k→(((ch.toNat:Nat):Int)==((k.toNat:Nat):Int))=false:=fun k hk=>by
  rw[beq_eq_false_iff_ne];exact fun e=>hk (UInt8.toNat_inj.1 (by omega))
 unfold strV at c0 c4 cf ca;clear hS
 have key:∀(p:Pl.Bs) (ok:Bool),sgOf name first all stem ch=(if ok then some p else none)→p.length≤1073741824→(∃(p' :Pl.Bs) (ok' :Bool),(.returned (.tuple #[.string ⟨p.toArray⟩,.bool ok]):Ending)= .returned (.tuple #[.string ⟨p'.toArray⟩,.bool ok'])∧sgOf name first all stem ch=(if ok' then some p' else none)∧p'.length≤1073741824)∧Below W.heap.size W W:=fun p ok e hl=>⟨⟨p,ok,rfl,e,hl⟩,Below.refl _ _⟩
 have KEY:=hide key;clear key
 by_cases e1:ch=64
 ·have E:Hid (sgOf name first all stem ch=some name):=by rw[e1];rfl
  have b1:(((ch.toNat:Nat):Int)==64)=true:=by rw[e1];rfl
  go_enter Tryz.func145,Tryz.ntmps145
  go_wp2_with fail
  go_ret2
  exact uh KEY name true (uh E) l1
 by_cases e2:ch=60
 ·have E:Hid (sgOf name first all stem ch=some first):=by rw[e2];rfl
  have b1:(((ch.toNat:Nat):Int)==64)=false:=hne 64 e1;have b2:(((ch.toNat:Nat):Int)==60)=true:=by rw[e2];rfl
  go_enter Tryz.func145,Tryz.ntmps145
  go_wp2_with fail
  go_ret2
  exact uh KEY first true (uh E) l2
 by_cases e3:ch=94
 ·have E:Hid (sgOf name first all stem ch=some all):=by rw[e3];rfl
  have b1:(((ch.toNat:Nat):Int)==64)=false:=hne 64 e1;have b2:(((ch.toNat:Nat):Int)==60)=false:=hne 60 e2;have b3:(((ch.toNat:Nat):Int)==94)=true:=by rw[e3];rfl
  go_enter Tryz.func145,Tryz.ntmps145
  go_wp2_with fail
  go_ret2
  exact uh KEY all true (uh E) l3
 by_cases e4:ch=42
 ·have E:Hid (sgOf name first all stem ch=some stem):=by rw[e4];rfl
  have b1:(((ch.toNat:Nat):Int)==64)=false:=hne 64 e1;have b2:(((ch.toNat:Nat):Int)==60)=false:=hne 60 e2;have b3:(((ch.toNat:Nat):Int)==94)=false:=hne 94 e3;have b4:(((ch.toNat:Nat):Int)==42)=true:=by rw[e4];rfl
  go_enter Tryz.func145,Tryz.ntmps145
  go_wp2_with fail
  go_ret2
  exact uh KEY stem true (uh E) l4
 ·have E:Hid (sgOf name first all stem ch=none):=by
   show sgOf name first all stem ch=none;unfold sgOf;rw[if_neg e1,if_neg e2,if_neg e3,if_neg e4]
  have b1:(((ch.toNat:Nat):Int)==64)=false:=hne 64 e1;have b2:(((ch.toNat:Nat):Int)==60)=false:=hne 60 e2;have b3:(((ch.toNat:Nat):Int)==94)=false:=hne 94 e3;have b4:(((ch.toNat:Nat):Int)==42)=false:=hne 42 e4
  go_enter Tryz.func145,Tryz.ntmps145
  go_wp2_with fail
  go_ret2
  exact uh KEY [] false (uh E) (by simp)
theorem signsOf_any (name stem:Pl.Bs) (ph:Bool) (needs:List Pl.Bs) (a am:Option Addr) (cap b o nm cm:Nat) (W:World) (ha:0<needs.length→a=some ⟨b,o,none⟩∧RdN W b o needs) (hbW:0<needs.length→b<W.heap.size) (hc:needs.length≤cap) (hl:(Lib.join needs [32]).length≤1073741824) (hn:needs.length≤1073741824):
 Calls Tryz.prog 93 #[nodeV name ph (.slice a needs.length cap) (.slice am nm cm) stem] W fun e W' =>∃nb f al,e= .returned (signV nb f al)∧SgM nb f al name ph (.slice a needs.length cap) (.slice am nm cm) (needs.headD []) (Lib.join needs [32]) stem W' ∧Below W.heap.size W W' :=by
 have hz1:(W.alloc (.cells #[strV name,.bool ph,.slice a needs.length cap,.slice am nm cm,strV stem] 197)).heap.size=W.heap.size+1:=World.size_alloc _ _;have q1:=(Below.refl W.heap.size W).alloc (Nat.le_refl _) (.cells #[strV name,.bool ph,.slice a needs.length cap,.slice am nm cm,strV stem] 197)
 have rN:=Row.new W 197 [strV name,.bool ph,.slice a needs.length cap,.slice am nm cm,strV stem]
 have HZ:Hid (∀x:Value,Below W.heap.size W ((W.alloc (.cells #[strV name,.bool ph,.slice a needs.length cap,.slice am nm cm,strV stem] 197)).alloc (.cells #[x] 9))∧Row ((W.alloc (.cells #[strV name,.bool ph,.slice a needs.length cap,.slice am nm cm,strV stem] 197)).alloc (.cells #[x] 9)) W.heap.size 197 [strV name,.bool ph,.slice a needs.length cap,.slice am nm cm,strV stem]∧Row ((W.alloc (.cells #[strV name,.bool ph,.slice a needs.length cap,.slice am nm cm,strV stem] 197)).alloc (.cells #[x] 9)) (W.heap.size+1) 9 [x]):=fun x=>by
  have r2:=Row.new (W.alloc (.cells #[strV name,.bool ph,.slice a needs.length cap,.slice am nm cm,strV stem] 197)) 9 [x];rw[hz1] at r2;exact⟨q1.alloc (by omega) _,rN.alloc _,r2⟩
 have CJ:=hide (fun (Z:World) (hb:Below W.heap.size W Z)=>joinB_any needs a cap b o Z (fun e=>⟨(ha e).1,(ha e).2.below hb (hbW e)⟩) (fun e=>Nat.lt_of_lt_of_le (hbW e) hb.size) hc hl hn);clear q1 rN hz1;unfold nodeV
 match needs,ha,hbW,HZ,CJ with
 |[],_,_,HZ,CJ=>
  unfold strV at*;dsimp only[List.length_nil,List.headD_nil] at*
  go_enter Tryz.func93,Tryz.ntmps93
  go_wp2_with (first
   |(go_at_call 144;refine(uh CJ _ (uh HZ (.string ⟨#[]⟩)).1).mono ?_;rintro e w2 ⟨rfl,hb2⟩;have HE:=hide (SgM.mk (((uh HZ (.string ⟨#[]⟩)).2.1.later hb2).alloc (.cells #[.string ⟨(Lib.join [] [32]).toArray⟩] 9)) (((uh HZ (.string ⟨#[]⟩)).2.2.later hb2).alloc (.cells #[.string ⟨(Lib.join [] [32]).toArray⟩] 9)) (Row.new w2 9 [.string ⟨(Lib.join [] [32]).toArray⟩]));have HB2:=hide (((uh HZ (.string ⟨#[]⟩)).1.trans (hb2.mono (uh HZ (.string ⟨#[]⟩)).1.size)).alloc (by have:=hb2.size;have:=(uh HZ (.string ⟨#[]⟩)).1.size;omega) (.cells #[.string ⟨(Lib.join [] [32]).toArray⟩] 9));clear hb2)
   |fail)
  go_ret
  exact⟨_,_,_,rfl,uh HE,uh HB2⟩
 |x::r,ha,hbW,HZ,CJ=>
  obtain⟨rfl,hr⟩:=ha (by simp);have HA:=hide hr;have c0:W.cell? ⟨b,o,none⟩=some (strV x):=hr 0 x rfl;have hbl:=hbW (by simp);clear ha hbW hr;have t1:(0:Int)<((x::r).length:Nat):=by simp only[List.length_cons];omega
  unfold strV at*;dsimp only[List.headD_cons] at*;generalize hL:(x::r).length=n at*;have HD:=hide c0
  go_enter Tryz.func93,Tryz.ntmps93
  go_wp2_with (first
   |(go_at_call 144;refine(uh CJ _ (uh HZ (.string ⟨x.toArray⟩)).1).mono ?_;rintro e w2 ⟨rfl,hb2⟩;have HE:=hide (SgM.mk (((uh HZ (.string ⟨x.toArray⟩)).2.1.later hb2).alloc (.cells #[.string ⟨(Lib.join (x::r) [32]).toArray⟩] 9)) (((uh HZ (.string ⟨x.toArray⟩)).2.2.later hb2).alloc (.cells #[.string ⟨(Lib.join (x::r) [32]).toArray⟩] 9)) (Row.new w2 9 [.string ⟨(Lib.join (x::r) [32]).toArray⟩]));have HB2:=hide (((uh HZ (.string ⟨x.toArray⟩)).1.trans (hb2.mono (uh HZ (.string ⟨x.toArray⟩)).1.size)).alloc (by have:=hb2.size;have:=(uh HZ (.string ⟨x.toArray⟩)).1.size;omega) (.cells #[.string ⟨(Lib.join (x::r) [32]).toArray⟩] 9));clear hb2)
   |fail)
  go_ret
  exact⟨_,_,_,rfl,uh HE,uh HB2⟩
end Go.Proofs.YtjelacjggijmfaaGreatDoor
