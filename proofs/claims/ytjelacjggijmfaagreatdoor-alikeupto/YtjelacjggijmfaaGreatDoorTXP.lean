/-
  Lines and their plain form; texts that are the same but for blanks.
-/
import Derived.Test.YtjelacjggijmfaaGreatDoorTGY
namespace Go.Mk
def closed (l:Bs):Bs:=if endsBack l then l++[32] else l
def textTo:Bool→Bs→List (Ln×Nat)→Option (Bool×Bs)
 |op,acc,[]=>some (op,acc)
 |op,acc,(l,e)::r=>if e==0&& !(l.kind==1&& !op) then textTo (if l.kind==1 then op else l.kind==5) (acc++closed (written l)++[10]) r else none
def textF:Bool→Bs→List (Ln×Nat)→Bs×Nat×Nat
 |_,acc,[]=>(acc,0,0)
 |op,acc,(l,e)::r=>if e==0 then(if l.kind==1&& !op then([],1,l.number) else textF (if l.kind==1 then op else l.kind==5) (acc++closed (written l)++[10]) r) else([],e,l.number)
def plainOf (t:Bs):Bs×Nat×Nat:=textF false [] (allF (joined t))
end Go.Mk
namespace Go.Mk
theorem cutR_eq (l:Bs):cutR l=rdrop blk l:=rfl
theorem rdrop_snoc (p:UInt8→Bool) (l:Bs) (c:UInt8):rdrop p (l++[c])=if p c then rdrop p l else l++[c]:=by
 unfold rdrop;rw[List.reverse_append]
 by_cases h:p c
 ·simp[h]
 ·simp[h]
theorem cutL_cons (c:UInt8) (l:Bs):cutL (c::l)=if blk c then cutL l else c::l:=by
 unfold cutL;rw[List.dropWhile_cons]
theorem cut_comm (l:Bs):cutR (cutL l)=cut l:=by
 unfold cut
 induction l with
 |nil=>rfl
 |cons c r ih=>
  rw[cutL_cons];simp only[cutR_eq] at ih⊢
  by_cases h:blk c
  ·rw[if_pos h,ih,rdrop_cons]
   by_cases he:(rdrop blk r).isEmpty
   ·have he2:rdrop blk r=[]:=by simpa using he
    simp[he2,h]
   ·simp only[Bool.not_eq_true] at he
    rw[he];simp only[Bool.false_and,Bool.false_eq_true,if_false];rw[cutL_cons,if_pos h]
  ·rw[if_neg h,rdrop_cons]
   simp only[Bool.not_eq_true] at h;simp[h,cutL_cons]
theorem inter_cons (x:Bs) (ws:List Bs):([32].intercalate (x::ws)).length≤x.length+1+([32].intercalate ws).length:=by
 cases ws with
 |nil=>simp[List.intercalate]
 |cons y r=>simp[List.intercalate,List.intersperse];omega
theorem joinW_le:∀(l cur:Bs),([32].intercalate (wordsA cur l)).length≤cur.length+l.length
 |[],cur=>by
  unfold wordsA;split
  ·simp[List.intercalate]
  ·simp[List.intercalate]
 |c::r,cur=>by
  unfold wordsA;have h0:=joinW_le r [];have h1:=joinW_le r (cur++[c]);have h2:=inter_cons cur (wordsA [] r);split
  ·split
   ·simp only[List.length_nil,List.length_cons] at*;omega
   ·simp only[List.length_nil,List.length_cons] at*;omega
  ·simp only[List.length_append,List.length_nil,List.length_cons] at*;omega
theorem oneBlank_le (l:Bs):(oneBlank l).length≤l.length:=by
 have:=joinW_le l []
 simpa [oneBlank,words] using this
theorem wordsA_count:∀(l cur:Bs),(wordsA cur l).length≤cur.length+l.length
 |[],cur=>by
  unfold wordsA;split
  ·simp
  ·rename_i h
   have:cur≠[]:=by simpa using h
   have:=List.length_pos_iff.2 this;simp;omega
 |c::r,cur=>by
  unfold wordsA;have h0:=wordsA_count r [];have h1:=wordsA_count r (cur++[c]);split
  ·split
   ·simp only[List.length_nil,List.length_cons] at*;omega
   ·simp only[List.length_nil,List.length_cons] at*;omega
  ·simp only[List.length_append,List.length_nil,List.length_cons] at*;omega
theorem words_count (l:Bs):(words l).length≤l.length:=by
 have:=wordsA_count l []
 simpa [words] using this
end Go.Mk
namespace Go.Mk
theorem sides_len (a b c:Bs):(sides a b c).length≤a.length+b.length+c.length+2:=by
 unfold sides;split
 ·simp;omega
 ·simp;omega
theorem written_len (l:Ln):(written l).length≤l.left.length+l.right.length+8:=by
 have h1:=oneBlank_le l.left;have h2:=oneBlank_le l.right;have h3:=sides_len l.left [58,61] l.right;have h4:=sides_len l.left [61] l.right;have h5:=sides_len (oneBlank l.left) [58] (oneBlank l.right);unfold written;simp only[List.length_cons,List.length_nil] at h3 h4 h5
 repeat' split
 all_goals try simp only[List.length_append,List.length_cons,List.length_nil,incl]
 all_goals omega
theorem closed_len (l:Bs):(closed l).length≤l.length+1:=by
 unfold closed;split<;>simp
theorem cost_append (a b:List (Ln×Nat)):cost (a++b)=cost a+cost b:=by simp[cost]
theorem textTo_len:∀(l:List (Ln×Nat)) (op:Bool) (acc:Bs) (op' :Bool) (acc' :Bs),textTo op acc l=some (op',acc')→acc'.length≤acc.length+cost l
 |[],op,acc,op',acc',h=>by
  simp only[textTo,Option.some.injEq,Prod.mk.injEq] at h;obtain⟨_,rfl⟩:=h;omega
 |(l,e)::r,op,acc,op',acc',h=>by
  unfold textTo at h;split at h
  ·have ih:=textTo_len r _ _ op' acc' h
   have h1:=closed_len (written l);have h2:=written_len l;rw[cost_cons];simp only[List.length_append,List.length_cons,List.length_nil] at*;omega
  ·cases h
theorem textF_len:∀(l:List (Ln×Nat)) (op:Bool) (acc:Bs),(textF op acc l).1.length≤acc.length+cost l
 |[],op,acc=>by simp[textF]
 |(l,e)::r,op,acc=>by
  unfold textF;split
  ·split
   ·simp
   ·have ih:=textF_len r (if l.kind==1 then op else l.kind==5) (acc++closed (written l)++[10])
    have h1:=closed_len (written l);have h2:=written_len l;rw[cost_cons];simp only[List.length_append,List.length_cons,List.length_nil] at*;omega
  ·simp
theorem plainOf_len (t:Bs):(plainOf t).1.length≤12*(t.length+1):=by
 have h1:=textF_len (allF (joined t)) false [];have h2:=cost_all t;unfold plainOf;simp only[List.length_nil] at h1;omega
theorem textF_from:∀(pre rest:List (Ln×Nat)) (op:Bool) (acc:Bs) (op' :Bool) (acc' :Bs),textTo op acc pre=some (op',acc')→textF op acc (pre++rest)=textF op' acc' rest
 |[],rest,op,acc,op',acc',h=>by
  simp only[textTo,Option.some.injEq,Prod.mk.injEq] at h;obtain⟨rfl,rfl⟩:=h;rfl
 |(l,e)::r,rest,op,acc,op',acc',h=>by
  unfold textTo at h;split at h
  ·rename_i hc
   rw[Bool.and_eq_true] at hc;have ih:=textF_from r rest _ _ op' acc' h;rw[List.cons_append,textF,hc.1];have h2:(l.kind==1&& !op)=false:=by have:=hc.2;rwa [Bool.not_eq_true'] at this
   rw[h2];exact ih
  ·cases h
theorem textTo_snoc:∀(pre:List (Ln×Nat)) (x:Ln×Nat) (op:Bool) (acc:Bs) (op' :Bool) (acc' :Bs),textTo op acc pre=some (op',acc')→textTo op acc (pre++[x])=textTo op' acc' [x]
 |[],x,op,acc,op',acc',h=>by
  simp only[textTo,Option.some.injEq,Prod.mk.injEq] at h;obtain⟨rfl,rfl⟩:=h;rfl
 |(l,e)::r,x,op,acc,op',acc',h=>by
  unfold textTo at h;split at h
  ·rename_i hc
   have ih:=textTo_snoc r x _ _ op' acc' h;rw[List.cons_append,textTo,hc];exact ih
  ·cases h
end Go.Mk
namespace Go.Mk
def NB (l:Bs):Prop:=∀c,l.head?=some c→blk c=false
def NE (l:Bs):Prop:=∀c,l.getLast?=some c→blk c=false
theorem cutL_id {l:Bs} (h:NB l):cutL l=l:=by
 cases l with
 |nil=>rfl
 |cons c r=>rw[cutL_cons,h c rfl];rfl
theorem rdrop_id (p:UInt8→Bool) {l:Bs} (h:∀c,l.getLast?=some c→p c=false):rdrop p l=l:=by
 rcases List.eq_nil_or_concat l with rfl|⟨r,c,rfl⟩
 ·rfl
 ·rw[List.concat_eq_append] at*
  rw[rdrop_snoc,h c (by simp)];rfl
theorem cutR_id {l:Bs} (h:NE l):cutR l=l:=rdrop_id blk h
theorem cut_id {l:Bs} (h1:NB l) (h2:NE l):cut l=l:=by unfold cut;rw[cutR_id h2,cutL_id h1]
theorem nb_cutL:∀l:Bs,NB (cutL l)
 |[]=>fun c h=>by cases h
 |x::r=>fun c h=>by
  rw[cutL_cons] at h;cases hx:blk x with
  |true=>rw[hx] at h;exact nb_cutL r c h
  |false=>rw[hx] at h;simp at h;subst h;exact hx
theorem rdrop_last (p:UInt8→Bool):∀l:Bs,∀c,(rdrop p l).getLast?=some c→p c=false
 |[],c,h=>by cases h
 |x::r,c,h=>by
  rw[rdrop_cons] at h;split at h
  ·cases h
  ·rename_i hc
   cases hr:rdrop p r with
   |nil=>
    rw[hr] at h hc;simp at h hc;subst h;exact hc
   |cons y z=>
    rw[hr,List.getLast?_cons_cons,←hr] at h;exact rdrop_last p r c h
theorem ne_cutR (l:Bs):NE (cutR l):=rdrop_last blk l
theorem nb_cut (l:Bs):NB (cut l):=nb_cutL _
theorem ne_cut (l:Bs):NE (cut l):=by rw[←cut_comm];exact ne_cutR _
theorem cut_front {c:UInt8} (h:blk c=true) (l:Bs):cut (c::l)=cut l:=by
 rw[←cut_comm,cutL_cons,h,←cut_comm];rfl
theorem cut_back {c:UInt8} (h:blk c=true) (l:Bs):cut (l++[c])=cut l:=by
 unfold cut;rw[cutR_eq,rdrop_snoc,h,cutR_eq];rfl
theorem nb_append {a b:Bs} (h:NB a) (hne:a≠[]):NB (a++b):=fun c hc=>by
 cases a with
 |nil=>exact absurd rfl hne
 |cons x r=>exact h c hc
theorem ne_append {a b:Bs} (h:NE b) (hne:b≠[]):NE (a++b):=fun c hc=>by
 rw[List.getLast?_append] at hc;cases hb:b.getLast? with
 |none=>exact absurd (List.getLast?_eq_none_iff.1 hb) hne
 |some y=>
  rw[hb] at hc;simp at hc;subst hc;exact h y hb
theorem mem_cutL {c:UInt8} {l:Bs} (h:c∈cutL l):c∈l:=by unfold cutL at h;exact(List.dropWhile_suffix _).subset h
theorem mem_rdrop {p:UInt8→Bool} {c:UInt8} {l:Bs} (h:c∈rdrop p l):c∈l:=by
 unfold rdrop at h;rw[List.mem_reverse] at h;have:=(List.dropWhile_suffix _).subset h
 rwa [List.mem_reverse] at this
theorem mem_cut {c:UInt8} {l:Bs} (h:c∈cut l):c∈l:=mem_rdrop (mem_cutL h)
/-! ### Words-/
def Good (ws:List Bs):Prop:=∀w∈ws,w≠[]∧∀c∈w,blk c=false
theorem wordsA_good:∀(l cur:Bs),(∀c∈cur,blk c=false)→Good (wordsA cur l)
 |[],cur,hc=>by
  unfold wordsA;split
  ·exact fun w h=>by cases h
  ·rename_i hn
   intro w h;rw[List.mem_singleton] at h;subst h;exact⟨by simpa using hn,hc⟩
 |x::r,cur,hc=>by
  unfold wordsA;cases hx:blk x with
  |true=>
   simp only[if_true];have ih:=wordsA_good r [] (fun c h=>by cases h);split
   ·exact ih
   ·rename_i hn
    intro w h
    rcases List.mem_cons.1 h with rfl|h
    ·exact⟨by simpa using hn,hc⟩
    ·exact ih w h
  |false=>
   simp only[Bool.false_eq_true,if_false];refine wordsA_good r (cur++[x]) (fun c h=> ?_)
   rcases List.mem_append.1 h with h|h
   ·exact hc c h
   ·rw[List.mem_singleton] at h;subst h;exact hx
theorem words_good (l:Bs):Good (words l):=wordsA_good l [] (fun c h=>by cases h)
theorem wordsA_mem:∀(l cur:Bs) (w:Bs),w∈wordsA cur l→∀c∈w,c∈cur∨c∈l
 |[],cur,w,h,c,hc=>by
  unfold wordsA at h;split at h
  ·cases h
  ·rw[List.mem_singleton] at h;subst h;exact .inl hc
 |x::r,cur,w,h,c,hc=>by
  unfold wordsA at h;split at h
  ·split at h
   ·rcases wordsA_mem r [] w h c hc with h1|h1
    ·cases h1
    ·exact .inr (List.mem_cons_of_mem _ h1)
   ·rcases List.mem_cons.1 h with rfl|h
    ·exact .inl hc
    ·rcases wordsA_mem r [] w h c hc with h1|h1
     ·cases h1
     ·exact .inr (List.mem_cons_of_mem _ h1)
  ·rcases wordsA_mem r (cur++[x]) w h c hc with h1|h1
   ·rcases List.mem_append.1 h1 with h1|h1
    ·exact .inl h1
    ·rw[List.mem_singleton] at h1;subst h1;exact .inr (List.mem_cons_self ..)
   ·exact .inr (List.mem_cons_of_mem _ h1)
theorem inter_two (x y:Bs) (r:List Bs):[32].intercalate (x::y::r)=x++32::[32].intercalate (y::r):=by
 simp[List.intercalate,List.intersperse]
theorem inter_one (x:Bs):[32].intercalate [x]=x:=by simp[List.intercalate,List.intersperse]
theorem wordsA_word (w:Bs) (cur rest:Bs) (h:∀c∈w,blk c=false):wordsA cur (w++rest)=wordsA (cur++w) rest:=by
 induction w generalizing cur with
 |nil=>simp
 |cons x r ih=>
  rw[List.cons_append,wordsA,h x (List.mem_cons_self ..)];simp only[Bool.false_eq_true,if_false];rw[ih (cur++[x]) (fun c hc=>h c (List.mem_cons_of_mem _ hc))];simp
theorem words_inter:∀ws:List Bs,Good ws→words ([32].intercalate ws)=ws
 |[],_=>rfl
 |[x],h=>by
  rw[inter_one];have hx:=h x (List.mem_cons_self ..);have:=wordsA_word x [] [] hx.2;rw[List.append_nil] at this;unfold words;rw[this,wordsA];simp[hx.1]
 |x::y::r,h=>by
  rw[inter_two];have hx:=h x (List.mem_cons_self ..);have ih:=words_inter (y::r) (fun w hw=>h w (List.mem_cons_of_mem _ hw));unfold words at*;rw[wordsA_word x [] _ hx.2,List.nil_append,wordsA];have hb:blk 32=true:=rfl;have he:x.isEmpty=false:=by simpa using hx.1
  rw[hb,he];simp only[if_true,Bool.false_eq_true,if_false];rw[ih]
theorem oneBlank_idem (l:Bs):oneBlank (oneBlank l)=oneBlank l:=by
 unfold oneBlank;rw[words_inter _ (words_good l)]
theorem mem_inter:∀(ws:List Bs) (c:UInt8),c∈[32].intercalate ws→c=32∨∃w∈ws,c∈w
 |[],c,h=>by cases h
 |[x],c,h=>by rw[inter_one] at h;exact .inr ⟨x,List.mem_cons_self ..,h⟩
 |x::y::r,c,h=>by
  rw[inter_two] at h
  rcases List.mem_append.1 h with h|h
  ·exact .inr ⟨x,List.mem_cons_self ..,h⟩
  ·rcases List.mem_cons.1 h with h|h
   ·exact .inl h
   ·rcases mem_inter (y::r) c h with h|⟨w,hw,hc⟩
    ·exact .inl h
    ·exact .inr ⟨w,List.mem_cons_of_mem _ hw,hc⟩
theorem mem_oneBlank {c:UInt8} {l:Bs} (h:c∈oneBlank l):c=32∨c∈l:=by
 rcases mem_inter _ c h with h|⟨w,hw,hc⟩
 ·exact .inl h
 ·rcases wordsA_mem l [] w hw c hc with h|h
  ·cases h
  ·exact .inr h
theorem inter_ne {x:Bs} {r:List Bs} (hx:x≠[]):[32].intercalate (x::r)≠[]:=by
 cases r with
 |nil=>rw[inter_one];exact hx
 |cons y z=>rw[inter_two];simp
theorem inter_nb:∀ws:List Bs,Good ws→NB ([32].intercalate ws)
 |[],_=>fun c h=>by cases h
 |[x],h=>by
  rw[inter_one];intro c hc;exact(h x (List.mem_cons_self ..)).2 c (List.mem_of_mem_head? hc)
 |x::y::r,h=>by
  rw[inter_two];have hx:=h x (List.mem_cons_self ..);exact nb_append (fun c hc=>hx.2 c (List.mem_of_mem_head? hc)) hx.1
theorem inter_nE:∀ws:List Bs,Good ws→NE ([32].intercalate ws)
 |[],_=>fun c h=>by cases h
 |[x],h=>by
  rw[inter_one];intro c hc;exact(h x (List.mem_cons_self ..)).2 c (List.mem_of_getLast? hc)
 |x::y::r,h=>by
  rw[inter_two];have ih:=inter_nE (y::r) (fun w hw=>h w (List.mem_cons_of_mem _ hw));have hy:=(h y (by simp)).1;have:x++32::[32].intercalate (y::r)=(x++[32])++[32].intercalate (y::r):=by simp
  rw[this];exact ne_append ih (inter_ne hy)
theorem nb_oneBlank (l:Bs):NB (oneBlank l):=inter_nb _ (words_good l)
theorem ne_oneBlank (l:Bs):NE (oneBlank l):=inter_nE _ (words_good l)
theorem wordsA_cur:∀(l cur:Bs),cur≠[]→∃s r,wordsA cur l=(cur++s)::r
 |[],cur,h=>⟨[],[],by unfold wordsA;simp[h]⟩
 |x::t,cur,h=>by
  unfold wordsA;cases hx:blk x with
  |true=>
   have he:cur.isEmpty=false:=by simpa using h
   simp only[if_true,he,Bool.false_eq_true,if_false];exact⟨[],_,by simp;rfl⟩
  |false=>
   simp only[Bool.false_eq_true,if_false];obtain⟨s,r,e⟩:=wordsA_cur t (cur++[x]) (by simp);exact⟨x::s,r,by rw[e];simp⟩
theorem words_ne {l:Bs} (h:NB l) (hne:l≠[]):words l≠[]:=by
 cases l with
 |nil=>exact absurd rfl hne
 |cons x t=>
  unfold words wordsA;rw[h x rfl];simp only[Bool.false_eq_true,if_false];obtain⟨s,r,e⟩:=wordsA_cur t ([]++[x]) (by simp);rw[e];simp
theorem oneBlank_ne {l:Bs} (h:NB l) (hne:l≠[]):oneBlank l≠[]:=by
 unfold oneBlank;cases hw:words l with
 |nil=>exact absurd hw (words_ne h hne)
 |cons x r=>exact inter_ne ((words_good l) x (by rw[hw];simp)).1
theorem wordsA_first:∀(l cur:Bs),(∀c∈cur,blk c=false)→cur≠[]→∃w r rest,wordsA cur l=w::r∧cur++l=w++rest∧(∀c∈w,blk c=false)∧(rest=[]∨∃c s,rest=c::s∧blk c=true)
 |[],cur,hc,hne=>⟨cur,[],[],by unfold wordsA;simp[hne],by simp,hc,.inl rfl⟩
 |x::t,cur,hc,hne=>by
  unfold wordsA;cases hx:blk x with
  |true=>
   have he:cur.isEmpty=false:=by simpa using hne
   simp only[if_true,he,Bool.false_eq_true,if_false];exact⟨cur,_,x::t,rfl,rfl,hc,.inr ⟨x,t,rfl,hx⟩⟩
  |false=>
   simp only[Bool.false_eq_true,if_false]
   obtain⟨w,r,rest,e1,e2,e3,e4⟩:=wordsA_first t (cur++[x]) (fun c h=>by
    rcases List.mem_append.1 h with h|h
    ·exact hc c h
    ·rw[List.mem_singleton] at h;subst h;exact hx) (by simp)
   exact⟨w,r,rest,e1,by rw[←e2];simp,e3,e4⟩
theorem words_first {l:Bs} (h:NB l) (hne:l≠[]):∃w r rest,words l=w::r∧l=w++rest∧(∀c∈w,blk c=false)∧(rest=[]∨∃c s,rest=c::s∧blk c=true):=by
 cases l with
 |nil=>exact absurd rfl hne
 |cons x t=>
  have hx:=h x rfl
  have hw:words (x::t)=wordsA [x] t:=by
   unfold words;rw[wordsA,hx];rfl
  rw[hw];exact wordsA_first t [x] (fun c hc=>by rw[List.mem_singleton] at hc;subst hc;exact hx) (by simp)
theorem prefix_word {p w z:Bs} (hp:∀c∈p,blk c=false) (hw:∀c∈w,blk c=false) (h1:p.isPrefixOf (w++32::z)=true) (h2:match (w++32::z).drop p.length with|[]=>True|c::_=>blk c=true):p=w:=by
 induction p generalizing w with
 |nil=>
  cases w with
  |nil=>rfl
  |cons x r=>simp at h2;rw[hw x (List.mem_cons_self ..)] at h2;cases h2
 |cons a p ih=>
  cases w with
  |nil=>
   simp[List.isPrefixOf] at h1;have:=hp a (List.mem_cons_self ..);rw[h1.1] at this;cases this
  |cons x r=>
   simp only[List.cons_append,List.isPrefixOf,Bool.and_eq_true,beq_iff_eq] at h1;obtain⟨rfl,h1⟩:=h1;rw[ih (fun c hc=>hp c (List.mem_cons_of_mem _ hc)) (fun c hc=>hw c (List.mem_cons_of_mem _ hc)) h1 h2]
end Go.Mk
namespace Go.Mk
theorem endsBack_snoc (l:Bs) (c:UInt8):endsBack (l++[c])=(c==92):=by
 unfold endsBack;rw[List.getLast?_append];simp
theorem endsBack_closed (l:Bs):endsBack (closed l)=false:=by
 unfold closed;cases h:endsBack l with
 |true=>simp only[if_true];rw[endsBack_snoc];rfl
 |false=>simpa using h
theorem closed_cases (l:Bs):(endsBack l=false∧closed l=l)∨(endsBack l=true∧closed l=l++[32]):=by
 unfold closed;cases h:endsBack l with
 |true=>exact .inr ⟨rfl,rfl⟩
 |false=>exact .inl ⟨rfl,rfl⟩
theorem mem_closed {c:UInt8} {l:Bs} (h:c∈closed l):c=32∨c∈l:=by
 rcases closed_cases l with⟨_,e⟩|⟨_,e⟩
 ·rw[e] at h;exact .inr h
 ·rw[e] at h
  rcases List.mem_append.1 h with h|h
  ·exact .inr h
  ·rw[List.mem_singleton] at h;exact .inl h
theorem cut_closed (l:Bs):cut (closed l)=cut l:=by
 rcases closed_cases l with⟨_,e⟩|⟨_,e⟩
 ·rw[e]
 ·rw[e];exact cut_back rfl l
theorem before_none {c:UInt8} {l:Bs} (h:c∉l):before c l=l:=before_all c l (by simpa using h)
theorem takeWhile_all (p:UInt8→Bool):∀(l:Bs) (c:UInt8),c∈l.takeWhile p→p c=true
 |[],c,h=>by cases h
 |x::r,c,h=>by
  rw[List.takeWhile_cons] at h;cases hx:p x with
  |true=>
   rw[hx] at h;simp only[if_true] at h
   rcases List.mem_cons.1 h with rfl|h
   ·exact hx
   ·exact takeWhile_all p r c h
  |false=>rw[hx] at h;cases h
theorem before_not (c:UInt8) (l:Bs):c∉before c l:=by
 unfold before;intro h;have:=takeWhile_all _ _ _ h;simp at this
theorem incl_no:∀c∈incl,blk c=false∧c≠10∧c≠35:=by decide
set_option maxRecDepth 100000 in
theorem letter_no (c:UInt8) (h:letter c=true):blk c=false∧c≠10∧c≠35∧noSign c=true:=by
 have:∀i:Fin 256,letter (UInt8.ofNat i.val)=true→blk (UInt8.ofNat i.val)=false∧UInt8.ofNat i.val≠10∧UInt8.ofNat i.val≠35∧noSign (UInt8.ofNat i.val)=true:=by decide
 have h2:=this ⟨c.toNat,c.toNat_lt⟩;simp only[UInt8.ofNat_toNat] at h2;exact h2 h
theorem parse_plain {o T:Bs} (h3:T≠[]) (h4:35∉o) (h5:cut o=T) (h6:List.isPrefixOf [9] o=false):
 parse o=if isIncl T then parseIncl (cut (T.drop 7)) else parseSides T:=by
 unfold parse;rw[h6,before_none h4,h5];have:T.isEmpty=false:=by simpa using h3
 rw[this];rfl
theorem tab_no {l:Bs} (h:NB l):List.isPrefixOf [9] l=false:=by
 cases l with
 |nil=>rfl
 |cons c r=>
  have:=h c rfl;simp only[List.isPrefixOf,Bool.and_eq_false_imp,beq_iff_eq];intro e;subst e;cases this
theorem nb_closed {l:Bs} (h:NB l) (hne:l≠[]):NB (closed l):=by
 rcases closed_cases l with⟨_,e⟩|⟨_,e⟩
 ·rw[e];exact h
 ·rw[e];exact nb_append h hne
theorem again_cmd (r:Bs) (h1:NB r) (h2:r≠[]):∃r',parse (closed ([9]++r))=(⟨0,1,[],r'⟩,0)∧closed ([9]++r')=closed ([9]++r)∧(endsBack r=false→r' =r):=by
 obtain⟨r',hr',hnb,hne,hsm⟩:∃r',closed ([9]++r)=[9]++r' ∧NB r' ∧r' ≠[]∧(endsBack r=false→r' =r):=by
  rcases closed_cases ([9]++r) with⟨_,e⟩|⟨e0,e⟩
  ·exact⟨r,e,h1,h2,fun _=>rfl⟩
  ·refine⟨r++[32],by rw[e];simp,nb_append h1 h2,by simp,fun q=> ?_⟩
   unfold endsBack at q e0;rw[List.getLast?_append] at e0;cases hl:r.getLast? with
   |none=>exact absurd (List.getLast?_eq_none_iff.1 hl) h2
   |some c=>rw[hl] at q e0;simp only[Option.some_or] at e0;rw[e0] at q;cases q
 refine⟨r',?_,?_,hsm⟩
 ·rw[hr']
  unfold parse parseCmd
  have hc:cutL ([9]++r')=r' :=by
   show cutL (9::r')=r';rw[cutL_cons];exact cutL_id hnb
  have he:r'.isEmpty=false:=by simpa using hne
  rw[hc,he];rfl
 ·have:endsBack ([9]++r')=false:=by rw[←hr'];exact endsBack_closed _
  rw[hr'];unfold closed;rw[this];rfl
theorem again_incl (b:Bs) (h1:NB b) (h2:b≠[]) (h3:35∉b):parse (closed (incl++[32]++oneBlank b))=(⟨0,2,[],oneBlank b⟩,0):=by
 have hq:=oneBlank_ne h1 h2
 have hnb:NB (incl++[32]++oneBlank b):=by
  rw[List.append_assoc];exact nb_append (by intro c hc;cases hc;rfl) (by simp[incl])
 have hne:NE (incl++[32]++oneBlank b):=ne_append (ne_oneBlank b) hq;have hnn:incl++[32]++oneBlank b≠[]:=by simp[incl]
 have h35:35∉closed (incl++[32]++oneBlank b):=by
  intro h
  rcases mem_closed h with h|h
  ·cases h
  ·rcases List.mem_append.1 h with h|h
   ·revert h;decide
   ·rcases mem_oneBlank h with h|h
    ·cases h
    ·exact h3 h
 rw[parse_plain hnn h35 (by rw[cut_closed];exact cut_id hnb hne) (tab_no (nb_closed hnb hnn))];have hd:(incl++[32]++oneBlank b).drop 7=32::oneBlank b:=rfl
 have hi:isIncl (incl++[32]++oneBlank b)=true:=by
  unfold isIncl;rw[hd];have:incl.isPrefixOf (incl++[32]++oneBlank b)=true:=by rw[List.isPrefixOf_iff_prefix];exact⟨[32]++oneBlank b,by simp⟩
  rw[this];rfl
 rw[hi,hd,cut_front rfl,cut_id (nb_oneBlank b) (ne_oneBlank b)];unfold parseIncl;have:(oneBlank b).isEmpty=false:=by simpa using hq
 simp[this]
theorem again_sides (L sg R:Bs) (k:Nat) (hL1:NB L) (hL2:NE L) (hL3:L≠[]) (hR1:NB R) (hR2:NE R) (hLs:∀c∈L,noSign c=true∧c≠35) (hRh:35∉R)
 (hk:∀z,(z=[]∨∃y,z=32::y)→kindOf (sg++z)=(k,z)) (hsg:∃s0 s1,sg=s0::s1∧noSign s0=false) (hsl:∀c∈sg,blk c=false∧c≠35) (hm:mayStand k L=true)
 (hi:∀z,isIncl (L++32::z)=false):
 parse (closed (sides L sg R))=(⟨0,k,L,R⟩,0):=by
 obtain⟨z,hz,hzs,hzc,hzn,hzh⟩:∃z,sides L sg R=L++32::(sg++z)∧(z=[]∨∃y,z=32::y)∧cut z=R∧NE (sg++z)∧35∉z:=by
  unfold sides;obtain⟨s0,s1,rfl,_⟩:=hsg;cases R with
  |nil=>exact⟨[],by simp,.inl rfl,rfl,by rw[List.append_nil];exact fun c hc=>(hsl c (List.mem_of_getLast? hc)).1,by simp⟩
  |cons a r=>
   refine⟨32::(a::r),by simp,.inr ⟨_,rfl⟩,?_,?_,?_⟩
   ·rw[cut_front rfl];exact cut_id hR1 hR2
   ·have:(s0::s1)++32::(a::r)=((s0::s1)++[32])++(a::r):=by simp
    rw[this];exact ne_append hR2 (by simp)
   ·intro h;rcases List.mem_cons.1 h with h|h
    ·cases h
    ·exact hRh h
 have hsgne:sg++z≠[]:=by obtain⟨s0,s1,rfl,_⟩:=hsg;simp
 rw[hz];have hnb:NB (L++32::(sg++z)):=nb_append hL1 hL3
 have hne:NE (L++32::(sg++z)):=by
  have:L++32::(sg++z)=(L++[32])++(sg++z):=by simp
  rw[this];exact ne_append hzn hsgne
 have hnn:L++32::(sg++z)≠[]:=by simp
 have h35:35∉closed (L++32::(sg++z)):=by
  intro h
  rcases mem_closed h with h|h
  ·cases h
  ·rcases List.mem_append.1 h with h|h
   ·exact(hLs _ h).2 rfl
   ·rcases List.mem_cons.1 h with h|h
    ·cases h
    ·rcases List.mem_append.1 h with h|h
     ·exact(hsl _ h).2 rfl
     ·exact hzh h
 rw[parse_plain hnn h35 (by rw[cut_closed];exact cut_id hnb hne) (tab_no (nb_closed hnb hnn)),hi];simp only[Bool.false_eq_true,if_false]
 have hsp:∀(l:Bs) (rest:Bs),(∀c∈l,noSign c=true)→(∃s0 s1,rest=s0::s1∧noSign s0=false)→(l++rest).takeWhile noSign=l∧(l++rest).dropWhile noSign=rest:=by
  intro l rest hl hr;obtain⟨s0,s1,rfl,hs⟩:=hr
  constructor
  ·rw[List.takeWhile_append_of_pos (fun c hc=>hl c hc),List.takeWhile_cons,hs];simp
  ·rw[List.dropWhile_append_of_pos (fun c hc=>hl c hc),List.dropWhile_cons,hs];rfl
 have hrest:∃s0 s1,sg++z=s0::s1∧noSign s0=false:=by obtain⟨s0,s1,rfl,hs⟩:=hsg;exact⟨s0,s1++z,by simp,hs⟩
 have hl2:∀c∈L++[32],noSign c=true:=by
  intro c hc
  rcases List.mem_append.1 hc with hc|hc
  ·exact(hLs c hc).1
  ·rw[List.mem_singleton] at hc;subst hc;rfl
 obtain⟨t1,t2⟩:=hsp (L++[32]) (sg++z) hl2 hrest;have e1:L++[32]++(sg++z)=L++32::(sg++z):=by simp
 rw[e1] at t1 t2;unfold parseSides;rw[t1,t2,hk z hzs,cut_back rfl,cut_id hL1 hL2];have he:(sg++z).isEmpty=false:=by simpa using hsgne
 rw[he];simp only[Bool.false_eq_true,if_false,hm,if_true,hzc]
theorem mem_sides {c:UInt8} {a b d:Bs} (h:c∈sides a b d):c∈a∨c∈b∨c∈d∨c=32:=by
 unfold sides at h;split at h
 ·simp only[List.mem_append,List.mem_singleton] at h
  rcases h with(h|h)|h
  ·exact .inl h
  ·exact .inr (.inr (.inr h))
  ·exact .inr (.inl h)
 ·simp only[List.mem_append,List.mem_singleton] at h
  rcases h with(((h|h)|h)|h)|h
  ·exact .inl h
  ·exact .inr (.inr (.inr h))
  ·exact .inr (.inl h)
  ·exact .inr (.inr (.inr h))
  ·exact .inr (.inr (.inl h))
theorem isIncl_word {w z:Bs} (hw:∀c∈w,blk c=false) (h:isIncl (w++32::z)=true):incl=w:=by
 unfold isIncl at h;rw[Bool.and_eq_true] at h;refine prefix_word (fun c hc=>(incl_no c hc).1) hw h.1 ?_;have h2:=h.2;have:incl.length=7:=rfl;rw[this];cases hd:(w++32::z).drop 7 with
 |nil=>trivial
 |cons a r=>rw[hd] at h2;exact h2
theorem isIncl_of {rest:Bs} (h:rest=[]∨∃c s,rest=c::s∧blk c=true):isIncl (incl++rest)=true:=by
 unfold isIncl;have hp:incl.isPrefixOf (incl++rest)=true:=by rw[List.isPrefixOf_iff_prefix];exact⟨rest,rfl⟩
 have hd:(incl++rest).drop 7=rest:=rfl;rw[hp,hd]
 rcases h with rfl|⟨c,s,rfl,hc⟩
 ·rfl
 ·simpa using hc
theorem dropWhile_head (p:UInt8→Bool):∀(l:Bs) (c:UInt8),(l.dropWhile p).head?=some c→p c=false
 |[],c,h=>by cases h
 |x::r,c,h=>by
  rw[List.dropWhile_cons] at h;cases hx:p x with
  |true=>rw[hx] at h;exact dropWhile_head p r c h
  |false=>rw[hx] at h;simp at h;subst h;exact hx
theorem rdrop_split (p:UInt8→Bool):∀l:Bs,∃b,l=rdrop p l++b∧∀c∈b,p c=true
 |[]=>⟨[],rfl,fun c h=>by cases h⟩
 |x::r=>by
  obtain⟨b,h1,h2⟩:=rdrop_split p r;rw[rdrop_cons];cases hc:(rdrop p r).isEmpty&&p x with
  |true=>
   rw[Bool.and_eq_true] at hc;have he:rdrop p r=[]:=by simpa using hc.1
   rw[he] at h1;refine⟨x::r,by simp,fun c h=> ?_⟩
   rcases List.mem_cons.1 h with rfl|h
   ·exact hc.2
   ·rw[h1] at h;exact h2 c (by simpa using h)
  |false=>exact⟨b,by simp only[Bool.false_eq_true,if_false,List.cons_append];rw[←h1],h2⟩
def LikeL (l l' :Ln):Prop:=(l.kind=1→endsBack l.right=false→l'.right=l.right)∧(l.kind=2→l'.right=oneBlank l.right)∧(l.kind=3∨l.kind=4→l'.left=l.left∧l'.right=l.right)∧(l.kind=5→l'.left=oneBlank l.left∧l'.right=oneBlank l.right)
theorem again {w:Bs} {l:Ln} (h10:10∉w) (hp:parse w=(l,0)) (hk:l.kind≠0):
 ∃l',parse (closed (written l))=(l',0)∧l'.kind=l.kind∧closed (written l')=closed (written l)∧10∉closed (written l)∧LikeL l l' :=by
 have no10:∀x:Bs,10∉x→10∉closed x:=fun x hx h=>by
  rcases mem_closed h with h|h
  ·cases h
  ·exact hx h
 unfold parse at hp;split at hp
 · --a command
   unfold parseCmd at hp;split at hp
   ·cases hp;exact absurd rfl hk
   ·rename_i hne
    cases hp;have hne' :cutL w≠[]:=by simpa using hne
    obtain⟨r',h1,h2,h3⟩:=again_cmd (cutL w) (nb_cutL w) hne';refine⟨_,h1,rfl,h2,no10 _ ?_,fun _=>h3,fun q=>(by cases q),fun q=>(by rcases q with q|q<;>cases q),fun q=>(by cases q)⟩;intro h
    rcases List.mem_append.1 h with h|h
    ·revert h;decide
    ·exact h10 (mem_cutL h)
 ·have hT35:35∉cut (before 35 w):=fun h=>before_not 35 w (mem_cut h)
  have hT10:10∉cut (before 35 w):=fun h=>h10 (by have:=mem_cut h;unfold before at this;exact(List.takeWhile_prefix _).subset this)
  have hTb:=nb_cut (before 35 w);have hTe:=ne_cut (before 35 w);generalize cut (before 35 w)=T at*;split at hp
  ·cases hp;exact absurd rfl hk
  ·split at hp
   · --an include
     unfold parseIncl at hp;split at hp
     ·cases hp
     ·rename_i hne
      cases hp;have hne' :cut (T.drop 7)≠[]:=by simpa using hne
      have hsub:∀c,c∈cut (T.drop 7)→c∈T:=fun c h=>List.mem_of_mem_drop (mem_cut h)
      have h1:=again_incl (cut (T.drop 7)) (nb_cut _) hne' (fun h=>hT35 (hsub _ h));refine⟨_,h1,rfl,?_,no10 _ ?_,fun q=>(by cases q),fun _=>rfl,fun q=>(by rcases q with q|q<;>cases q),fun q=>(by cases q)⟩
      ·show closed (incl++[32]++oneBlank (oneBlank _))=closed (incl++[32]++oneBlank _)
       rw[oneBlank_idem]
      ·intro h
       rcases List.mem_append.1 h with h|h
       ·revert h;decide
       ·rcases mem_oneBlank h with h|h
        ·cases h
        ·exact hT10 (hsub _ h)
   ·rename_i hni
    unfold parseSides at hp;split at hp
    ·cases hp
    ·rename_i hdne
     split at hp
     ·rename_i hm
      cases hp;have hPsub:∀c,c∈cut (T.takeWhile noSign)→c∈T∧noSign c=true:=fun c h=>⟨(List.takeWhile_prefix _).subset (mem_cut h),takeWhile_all _ _ _ (mem_cut h)⟩
      have hKsub:∀c,c∈cut (kindOf (T.dropWhile noSign)).2→c∈T:=fun c h=>by
       have h1:=mem_cut h
       have h2:∀(x:Bs) (c:UInt8),c∈(kindOf x).2→c∈x:=by
        intro x c hc;unfold kindOf at hc;split at hc
        ·exact List.mem_cons_of_mem _ (List.mem_cons_of_mem _ hc)
        ·exact List.mem_cons_of_mem _ hc
        ·exact List.mem_of_mem_tail hc
       exact(List.dropWhile_suffix _).subset (h2 _ _ h1)
      have hkc:(kindOf (T.dropWhile noSign)).1=3∨(kindOf (T.dropWhile noSign)).1=4∨(kindOf (T.dropWhile noSign)).1=5:=by unfold kindOf;split<;>simp
      have hLb:=nb_cut (T.takeWhile noSign);have hLe:=ne_cut (T.takeWhile noSign);have hRb:=nb_cut (kindOf (T.dropWhile noSign)).2;have hRe:=ne_cut (kindOf (T.dropWhile noSign)).2
      have hLT:cut (T.takeWhile noSign)≠[]→∃rest,T=cut (T.takeWhile noSign)++rest∧(rest=[]∨∃c s,rest=c::s∧(blk c=true∨noSign c=false)):=by
       intro hne;have hsp:=List.takeWhile_append_dropWhile (p:=noSign) (l:=T);have hdd:∀c,(T.dropWhile noSign).head?=some c→noSign c=false:=dropWhile_head noSign T;generalize T.takeWhile noSign=P at*;generalize T.dropWhile noSign=Q at*;have hPn:P≠[]:=by intro e;subst e;exact hne rfl
       have hPb:NB P:=by
        intro c hc;apply hTb c;rw[←hsp];cases P with
        |nil=>exact absurd rfl hPn
        |cons a r=>exact hc
       obtain⟨b,hb1,hb2⟩:=rdrop_split blk P;have hcut:cut P=rdrop blk P:=by rw[←cut_comm,cutL_id hPb];rfl
       rw[hcut];refine⟨b++Q,by rw[←List.append_assoc,←hb1,hsp],?_⟩;cases b with
       |cons a r=>exact .inr ⟨a,r++Q,rfl,.inl (hb2 a (List.mem_cons_self ..))⟩
       |nil=>
        cases Q with
        |nil=>exact .inl rfl
        |cons a r=>exact .inr ⟨a,r,rfl,.inr (hdd a rfl)⟩
      generalize (kindOf (T.dropWhile noSign)).1=k at*;generalize cut (kindOf (T.dropWhile noSign)).2=R at*;generalize cut (T.takeWhile noSign)=L at*
      have hLi:L≠incl:=by
       intro e;unfold mayStand at hm;rw[e] at hm;simp at hm
      have hns:∀c∈L,noSign c=true∧c≠35:=fun c hc=>⟨(hPsub c hc).2,fun e=>by subst e;exact hT35 (hPsub _ hc).1⟩
      have hR35:35∉R:=fun h=>hT35 (hKsub _ h)
      have hname:k≠5→isName L=true:=by
       intro h5;unfold mayStand at hm;have e1:(L==incl)=false:=by simpa using hLi
       have e2:(k==5)=false:=by simpa using h5
       rw[e1,e2] at hm
       simpa using hm
      have hnm:isName L=true→L≠[]∧∀c∈L,blk c=false:=by
       intro h;unfold isName at h;simp only[Bool.and_eq_true,List.all_eq_true] at h;exact⟨by simpa using h.1.1,fun c hc=>(letter_no c (h.2 c hc)).1⟩
      have h10s:∀(a sg b:Bs),(∀c∈a,c=32∨c∈L)→10∉sg→(∀c∈b,c=32∨c∈R)→10∉closed (sides a sg b):=by
       intro a sg b ha hs hb;refine no10 _ (fun h=> ?_)
       rcases mem_sides h with h|h|h|h
       ·rcases ha _ h with h|h
        ·cases h
        ·exact hT10 (hPsub _ h).1
       ·exact hs h
       ·rcases hb _ h with h|h
        ·cases h
        ·exact hT10 (hKsub _ h)
       ·cases h
      rcases hkc with rfl|rfl|rfl
      ·obtain⟨hn1,hn2⟩:=hnm (hname (by decide))
       refine⟨_,again_sides L [58,61] R 3 hLb hLe hn1 hRb hRe hns hR35 (fun z _=>rfl) ⟨58,[61],rfl,rfl⟩ (by decide) hm (fun z=> ?_),rfl,rfl,h10s L _ R (fun c h=> .inr h) (by decide) (fun c h=> .inr h),fun q=>(by cases q),fun q=>(by cases q),fun _=>⟨rfl,rfl⟩,fun q=>(by cases q)⟩;cases h:isIncl (L++32::z) with
       |false=>rfl
       |true=>exact absurd (isIncl_word hn2 h).symm hLi
      ·obtain⟨hn1,hn2⟩:=hnm (hname (by decide))
       refine⟨_,again_sides L [61] R 4 hLb hLe hn1 hRb hRe hns hR35 (fun z _=>rfl) ⟨61,[],rfl,rfl⟩ (by decide) hm (fun z=> ?_),rfl,rfl,h10s L _ R (fun c h=> .inr h) (by decide) (fun c h=> .inr h),fun q=>(by cases q),fun q=>(by cases q),fun _=>⟨rfl,rfl⟩,fun q=>(by cases q)⟩;cases h:isIncl (L++32::z) with
       |false=>rfl
       |true=>exact absurd (isIncl_word hn2 h).symm hLi
      ·have hLn:L≠[]:=by
        intro e;subst e;unfold mayStand at hm;simp at hm
       obtain⟨fw,fr,frest,w1,w2,w3,w4⟩:=words_first hLb hLn
       have hfw:incl≠fw:=by
        intro e;subst e
        rcases w4 with rfl|⟨c,s,rfl,hc⟩
        ·rw[List.append_nil] at w2;exact hLi w2
        ·obtain⟨rest,hT,_⟩:=hLT hLn
         have:isIncl T=true:=by
          rw[hT,w2,List.append_assoc];exact isIncl_of (.inr ⟨c,s++rest,rfl,hc⟩)
         exact hni this
       have hob:∃y,oneBlank L=fw++y∧(y=[]∨∃v,y=32::v):=by
        unfold oneBlank;rw[w1];cases fr with
        |nil=>exact⟨[],by rw[inter_one];simp,.inl rfl⟩
        |cons a r=>exact⟨_,inter_two fw a r,.inr ⟨_,rfl⟩⟩
       obtain⟨y,hy1,hy2⟩:=hob
       have hoi:∀z,isIncl (oneBlank L++32::z)=false:=by
        intro z;cases h:isIncl (oneBlank L++32::z) with
        |false=>rfl
        |true=>
         rw[hy1] at h
         rcases hy2 with rfl|⟨v,rfl⟩
         ·rw[List.append_nil] at h;exact absurd (isIncl_word w3 h) hfw
         ·rw[List.append_assoc,List.cons_append] at h;exact absurd (isIncl_word w3 h) hfw
       have hom:mayStand 5 (oneBlank L)=true:=by
        unfold mayStand
        have e1:(oneBlank L==incl)=false:=by
         rw[beq_eq_false_iff_ne];intro e;have h2:=hoi [];rw[e] at h2;have:=isIncl_of (rest:=[32]) (.inr ⟨32,[],rfl,rfl⟩);rw[this] at h2;cases h2
        have e2:(oneBlank L).isEmpty=false:=by simpa using oneBlank_ne hLb hLn
        rw[e1,e2];rfl
       have hkz:∀z:Bs,(z=[]∨∃y,z=32::y)→kindOf ([58]++z)=(5,z):=by
        rintro z (rfl|⟨y,rfl⟩)<;>rfl
       have hobs:∀c∈oneBlank L,noSign c=true∧c≠35:=by
        intro c hc
        rcases mem_oneBlank hc with rfl|h
        ·exact⟨rfl,by decide⟩
        ·exact hns c h
       have hob35:35∉oneBlank R:=fun h=>by
        rcases mem_oneBlank h with h|h
        ·cases h
        ·exact hR35 h
       refine⟨_,again_sides (oneBlank L) [58] (oneBlank R) 5 (nb_oneBlank L) (ne_oneBlank L) (oneBlank_ne hLb hLn) (nb_oneBlank R) (ne_oneBlank R) hobs hob35 hkz ⟨58,[],rfl,rfl⟩ (by decide) hom hoi,rfl,?_,h10s _ _ _ (fun c h=>mem_oneBlank h) (by decide) (fun c h=>mem_oneBlank h),fun q=>(by cases q),fun q=>(by cases q),fun q=>(by rcases q with q|q<;>cases q),fun _=>⟨rfl,rfl⟩⟩
       show closed (sides (oneBlank (oneBlank L)) [58] (oneBlank (oneBlank R)))=closed (sides (oneBlank L) [58] (oneBlank R));rw[oneBlank_idem,oneBlank_idem]
     ·cases hp
end Go.Mk
namespace Go.Mk
def out (x:Ln×Nat):Bs:=closed (written x.1)
def catOut:List (Ln×Nat)→Bs
 |[]=>[]
 |x::r=>out x++10::catOut r
theorem textF_ok:∀(L:List (Ln×Nat)) (op:Bool) (acc:Bs),(textF op acc L).2.1=0→∃op',textTo op acc L=some (op',(textF op acc L).1)∧(textF op acc L).2.2=0
 |[],op,acc,_=>⟨op,rfl,rfl⟩
 |(l,e)::r,op,acc,h=>by
  unfold textF at h⊢;unfold textTo;cases he:(e==0) with
  |false=>
   rw[he] at h;simp at h he;exact absurd h he
  |true=>
   rw[he] at h;simp only[if_true] at h⊢;cases hk:(l.kind==1&& !op) with
   |true=>rw[hk] at h;simp at h
   |false=>
    rw[hk] at h;simp only[Bool.false_eq_true,if_false] at h⊢;exact textF_ok r _ _ h
theorem textTo_cat:∀(L:List (Ln×Nat)) (op:Bool) (acc:Bs) (op' :Bool) (a:Bs),textTo op acc L=some (op',a)→a=acc++catOut L
 |[],op,acc,op',a,h=>by
  simp only[textTo,Option.some.injEq,Prod.mk.injEq] at h;simp[catOut,h.2]
 |(l,e)::r,op,acc,op',a,h=>by
  unfold textTo at h;split at h
  ·rw[textTo_cat r _ _ op' a h]
   simp[catOut,out]
  ·cases h
theorem textTo_zero:∀(L:List (Ln×Nat)) (op:Bool) (acc:Bs) (r:Bool×Bs),textTo op acc L=some r→∀x∈L,x.2=0
 |[],_,_,_,_,x,hx=>by cases hx
 |(l,e)::t,op,acc,r,h,x,hx=>by
  unfold textTo at h;split at h
  ·rename_i hc
   rw[Bool.and_eq_true] at hc
   rcases List.mem_cons.1 hx with rfl|hx
   ·simpa using hc.1
   ·exact textTo_zero t _ _ r h x hx
  ·cases h
theorem segs_cat (o r:Bs) (h:10∉o):segs (o++10::r)=o::segs r:=by
 induction o with
 |nil=>rfl
 |cons c o ih=>
  have hc:(c==10)=false:=by rw[beq_eq_false_iff_ne];intro e;subst e;simp at h
  have ih:=ih (fun hh=>h (List.mem_cons_of_mem _ hh));rw[List.cons_append,segs,hc,ih];rfl
def Sound (x:Ln×Nat):Prop:=x.1.kind≠0∧∃l',parse (out x)=(l',0)∧l'.kind=x.1.kind∧closed (written l')=out x∧10∉out x∧LikeL x.1 l'
theorem segs_all:∀L:List (Ln×Nat),(∀x∈L,Sound x)→segs (catOut L)=L.map out++[[]]
 |[],_=>rfl
 |x::r,h=>by
  obtain⟨_,l',_,_,_,h10,_⟩:=h x (List.mem_cons_self ..);rw[catOut,segs_cat _ _ h10,segs_all r (fun y hy=>h y (List.mem_cons_of_mem _ hy))];rfl
theorem segs_no:∀t:Bs,∀s∈segs t,10∉s
 |[],s,hs=>by simp[segs] at hs;subst hs;simp
 |c::r,s,hs=>by
  have ih:=segs_no r;unfold segs at hs;split at hs
  ·rcases List.mem_cons.1 hs with rfl|hs
   ·simp
   ·exact ih s hs
  ·rename_i hc
   have hne:=segs_ne r;cases hsr:segs r with
   |nil=>exact absurd hsr hne
   |cons p ps=>
    rw[hsr] at hs ih;simp only[List.headD_cons,List.tail_cons] at hs
    rcases List.mem_cons.1 hs with rfl|hs
    ·intro h
     rcases List.mem_cons.1 h with h|h
     ·subst h;simp at hc
     ·exact ih p (List.mem_cons_self ..) h
    ·exact ih s (List.mem_cons_of_mem _ hs)
theorem take1_no:∀(ps:List Bs) (acc:Bs) (used:Nat) (p:Bs),10∉acc→10∉p→(∀s∈ps,10∉s)→10∉(take1 acc used p ps).1∧∀s∈(take1 acc used p ps).2.2,10∉s
 |[],acc,used,p,h1,h2,_=>by
  simp only[take1];refine⟨fun h=> ?_,fun s hs=>by cases hs⟩
  rcases List.mem_append.1 h with h|h
  ·exact h1 h
  ·exact h2 (mem_rdrop h)
 |q::qs,acc,used,p,h1,h2,h3=>by
  unfold take1;split
  ·refine take1_no qs _ _ _ ?_ (fun h=>h3 q (List.mem_cons_self ..) (mem_cutL h)) (fun s hs=>h3 s (List.mem_cons_of_mem _ hs))
   intro h
   rcases List.mem_append.1 h with h|h
   ·rcases List.mem_append.1 h with h|h
    ·exact h1 h
    ·exact h2 ((List.dropLast_prefix p).subset h)
   ·revert h;decide
  ·refine⟨fun h=> ?_,h3⟩
   rcases List.mem_append.1 h with h|h
   ·exact h1 h
   ·exact h2 h
theorem joinF_no:∀(f n:Nat) (ss:List Bs),(∀s∈ss,10∉s)→∀x∈joinF f n ss,10∉x.2∧n≤x.1
 |0,_,_,_,x,hx=>by cases hx
 |_+1,_,[],_,x,hx=>by cases hx
 |f+1,n,p::ps,h,x,hx=>by
  have ht:=take1_no ps [] 1 p (by simp) (h p (List.mem_cons_self ..)) (fun s hs=>h s (List.mem_cons_of_mem _ hs));rw[joinF] at hx
  rcases List.mem_cons.1 hx with rfl|hx
  ·exact⟨ht.1,Nat.le_refl _⟩
  ·have:=joinF_no f _ _ ht.2 x hx
   exact⟨this.1,by omega⟩
theorem joined_no {t:Bs} {x:Nat×Bs} (h:x∈joined t):10∉x.2∧1≤x.1:=joinF_no _ _ _ (segs_no t) x h
theorem allF_kind:∀{js:List (Nat×Bs)} {x:Ln×Nat},x∈allF js→x.2=0→x.1.kind≠0
 |(n,w)::r,x,h,h0=>by
  unfold allF at h;split at h
  ·exact allF_kind h h0
  ·rename_i hc
   rcases List.mem_cons.1 h with rfl|h
   ·intro hk
    simp only at h0 hk;simp[h0,hk] at hc
   ·split at h
    ·exact allF_kind h h0
    ·cases h
theorem parse_err (w:Bs):(parse w).2≤1:=by
 unfold parse
 repeat' split
 all_goals try (simp;done)
 ·unfold parseIncl;split<;>simp
 ·unfold parseSides
  repeat' split
  all_goals simp
theorem all_sound {t:Bs} {x:Ln×Nat} (h:x∈allF (joined t)) (h0:x.2=0):Sound x:=by
 have hk:=allF_kind h h0;obtain⟨y,hy,rfl⟩:=allF_mem h;simp only at hk h0;have hp:parse y.2=((parse y.2).1,0):=by rw[←h0]
 obtain⟨l',h1,h2,h3,h4,h5⟩:=again (joined_no hy).1 hp hk;exact⟨hk,l',h1,h2,h3,h4,h5⟩
theorem textF_err:∀(L:List (Ln×Nat)) (op:Bool) (acc:Bs),(∀x∈L,x.2≤1∧1≤x.1.number)→(textF op acc L).2.1≠0→(textF op acc L).1=[]∧(textF op acc L).2.1=1∧1≤(textF op acc L).2.2
 |[],op,acc,_,h=>absurd rfl h
 |(l,e)::r,op,acc,hx,h=>by
  have h1:=hx (l,e) (List.mem_cons_self ..);simp only at h1;unfold textF at h⊢;cases he:(e==0) with
  |false=>
   simp at he;simp only[Bool.false_eq_true,if_false];exact⟨trivial,by omega,h1.2⟩
  |true=>
   rw[he] at h;simp only[if_true] at h⊢;cases hk:(l.kind==1&& !op) with
   |true=>simp only[if_true];exact⟨trivial,trivial,h1.2⟩
   |false=>
    rw[hk] at h;simp only[Bool.false_eq_true,if_false] at h⊢;exact textF_err r _ _ (fun x hx' =>hx x (List.mem_cons_of_mem _ hx')) h
theorem plain_err (t:Bs) (h:(plainOf t).2.1≠0):(plainOf t).1=[]∧(plainOf t).2.1=1∧1≤(plainOf t).2.2:=by
 unfold plainOf at h⊢;refine textF_err _ _ _ (fun x hx=> ?_) h;obtain⟨y,hy,rfl⟩:=allF_mem hx;exact⟨parse_err _,(joined_no hy).2⟩
end Go.Mk
namespace Go.Mk
open Go
inductive Tx:Bs→Bs→Prop
 |nil:Tx [] []
 |chr (c:UInt8) {a b:Bs}:Tx a b→Tx (c::a) (c::b)
 |run {p q a b:Bs}:p.all blk=true→q.all blk=true→q≠[]→q.length≤p.length→Tx a b→Tx (p++a) (q++b)
theorem Tx.refl:∀a:Bs,Tx a a
 |[]=> .nil
 |c::r=> .chr c (Tx.refl r)
theorem Tx.len {a b:Bs} (h:Tx a b):b.length≤a.length:=by
 induction h with
 |nil=>exact Nat.le_refl _
 |chr c _ ih=>simpa using ih
 |run _ _ _ hl _ ih=>rw[List.length_append,List.length_append];omega
theorem Tx.append {a b c d:Bs} (h:Tx a b) (g:Tx c d):Tx (a++c) (b++d):=by
 induction h with
 |nil=>exact g
 |chr x _ ih=>exact .chr x ih
 |run h1 h2 h3 h4 _ ih=>rw[List.append_assoc,List.append_assoc];exact .run h1 h2 h3 h4 ih
theorem blk_not {c:UInt8} {p:Bs} (hc:blk c=false) (hp:p.all blk=true):∀x∈p,(x==c)=false:=fun x hx=>by
 rw[beq_eq_false_iff_ne];intro e;have:=List.all_eq_true.1 hp x hx;rw[e,hc] at this;cases this
theorem before_skip {c:UInt8}:∀{p:Bs} (a:Bs),(∀x∈p,(x==c)=false)→before c (p++a)=p++before c a
 |[],_,_=>rfl
 |x::r,a,h=>by
  unfold before;rw[List.cons_append,List.takeWhile_cons_of_pos (by rw[h x (List.mem_cons_self ..)];rfl)];have:=before_skip (c:=c) (p:=r) a fun y hy=>h y (List.mem_cons_of_mem _ hy)
  unfold before at this;rw[this];rfl
theorem after_skip {c:UInt8}:∀{p:Bs} (a:Bs),(∀x∈p,(x==c)=false)→after c (p++a)=after c a
 |[],_,_=>rfl
 |x::r,a,h=>by
  unfold after;rw[List.cons_append,List.dropWhile_cons_of_pos (by rw[h x (List.mem_cons_self ..)];rfl)];exact after_skip (c:=c) (p:=r) a fun y hy=>h y (List.mem_cons_of_mem _ hy)
theorem has_skip {c:UInt8} {p:Bs} (a:Bs) (h:∀x∈p,(x==c)=false):has c (p++a)=has c a:=by
 unfold has;rw[List.contains_eq_any_beq,List.contains_eq_any_beq,List.any_append]
 have:p.any (fun x=>c==x)=false:=by
  rw[List.any_eq_false];intro x hx q;have:=h x hx;rw[beq_iff_eq] at q;rw[q,beq_self_eq_true] at this;cases this
 rw[this,Bool.false_or]
theorem Tx.at {a b:Bs} (h:Tx a b) {c:UInt8} (hc:blk c=false):has c a=has c b∧Tx (before c a) (before c b)∧Tx (after c a) (after c b):=by
 induction h with
 |nil=>exact⟨rfl,.nil,.nil⟩
 | @chr x a b g ih=>
  cases e:(x==c) with
  |true=>
   have e' :(c==x)=true:=by rw[beq_iff_eq] at e⊢;exact e.symm
   refine⟨by unfold has;rw[List.contains_cons,List.contains_cons,e'];rfl,?_,?_⟩
   ·unfold before
    rw[List.takeWhile_cons_of_neg (by rw[e];simp),List.takeWhile_cons_of_neg (by rw[e];simp)];exact .nil
   ·unfold after
    rw[List.dropWhile_cons_of_neg (by rw[e];simp),List.dropWhile_cons_of_neg (by rw[e];simp)];exact g
  |false=>
   have e' :(c==x)=false:=by rw[beq_eq_false_iff_ne] at e⊢;exact fun q=>e q.symm
   refine⟨by unfold has;rw[List.contains_cons,List.contains_cons,e',Bool.false_or,Bool.false_or];exact ih.1,?_,?_⟩
   ·unfold before
    rw[List.takeWhile_cons_of_pos (by rw[e];rfl),List.takeWhile_cons_of_pos (by rw[e];rfl)];exact .chr x ih.2.1
   ·unfold after
    rw[List.dropWhile_cons_of_pos (by rw[e];rfl),List.dropWhile_cons_of_pos (by rw[e];rfl)];exact ih.2.2
 |run h1 h2 h3 h4 _ ih=>
  have q1:=blk_not hc h1;have q2:=blk_not hc h2;rw[has_skip _ q1,has_skip _ q2,before_skip _ q1,before_skip _ q2,after_skip _ q1,after_skip _ q2];exact⟨ih.1,.run h1 h2 h3 h4 ih.2.1,ih.2.2⟩
theorem Tx.head {a b:Bs} (h:Tx a b):(a=[]∧b=[])∨(∃c a' b',a=c::a' ∧b=c::b' ∧Tx a' b')∨(∃c a' d b',a=c::a' ∧b=d::b' ∧blk c=true∧blk d=true):=by
 cases h with
 |nil=>exact .inl ⟨rfl,rfl⟩
 |chr c g=>exact .inr (.inl ⟨c,_,_,rfl,rfl,g⟩)
 | @run p q a b h1 h2 h3 h4 g=>
  match p,q,h3 with
  |[],d::q,_=>simp at h4
  |c::p,d::q,_=>
   refine .inr (.inr ⟨c,_,d,_,rfl,rfl,?_,?_⟩)
   ·exact List.all_eq_true.1 h1 c (List.mem_cons_self ..)
   ·exact List.all_eq_true.1 h2 d (List.mem_cons_self ..)
theorem Tx.none {a b:Bs} (h:Tx a b) (hb:(∀x∈a,blk x=false)∨(∀x∈b,blk x=false)):a=b:=by
 induction h with
 |nil=>rfl
 |chr c _ ih=>rw[ih (hb.imp (fun q x hx=>q x (List.mem_cons_of_mem _ hx)) fun q x hx=>q x (List.mem_cons_of_mem _ hx))]
 | @run p q a b h1 h2 h3 h4 _ _=>
  exfalso
  match p,q,h3 with
  |[],d::q,_=>simp at h4
  |c::p,d::q,_=>
   rcases hb with e|e
   ·have:=e c (by simp)
    rw[List.all_eq_true.1 h1 c (List.mem_cons_self ..)] at this;cases this
   ·have:=e d (by simp)
    rw[List.all_eq_true.1 h2 d (List.mem_cons_self ..)] at this;cases this
theorem letter_blk {c:UInt8} (h:letter c=true):blk c=false:=by
 unfold blk;rw[Bool.or_eq_false_iff,beq_eq_false_iff_ne,beq_eq_false_iff_ne]
 constructor<;>(intro e;subst e;revert h;decide)
theorem Tx.name {a b:Bs} (h:Tx a b):isName a=isName b∧(isName a=true→a=b):=by
 have hl:∀l:Bs,isName l=true→∀x∈l,blk x=false:=fun l q x hx=>by
  unfold isName at q;rw[Bool.and_eq_true] at q;exact letter_blk (List.all_eq_true.1 q.2 x hx)
 have h1:isName a=true→a=b:=fun q=>h.none (.inl (hl a q))
 refine⟨?_,h1⟩;cases ha:isName a with
 |true=>rw[←h1 ha,ha]
 |false=>
  cases hb:isName b with
  |false=>rfl
  |true=>rw[h.none (.inr (hl b hb)),hb] at ha;cases ha
theorem words_skip:∀{p:Bs} (a:Bs),p.all blk=true→wordsA [] (p++a)=wordsA [] a
 |[],_,_=>rfl
 |c::r,a,h=>by
  rw[List.all_cons,Bool.and_eq_true] at h;rw[List.cons_append,wordsA,if_pos h.1];exact words_skip a h.2
theorem words_run (cur:Bs) {p:Bs} (a:Bs) (h:p.all blk=true) (hn:p≠[]):wordsA cur (p++a)=(if cur.isEmpty then wordsA [] a else cur::wordsA [] a):=by
 match p,hn with
 |c::r,_=>
  rw[List.all_cons,Bool.and_eq_true] at h;rw[List.cons_append,wordsA,if_pos h.1,words_skip a h.2]
theorem Tx.wordsA {a b:Bs} (h:Tx a b):∀cur,wordsA cur a=Mk.wordsA cur b:=by
 induction h with
 |nil=>exact fun _=>rfl
 |chr c _ ih=>exact fun cur=>by rw[Mk.wordsA,Mk.wordsA,ih,ih]
 | @run p q a b h1 h2 h3 h4 _ ih=>
  intro cur;have hp:p≠[]:=fun e=>by rw[e] at h4;exact h3 (List.length_eq_zero_iff.1 (by simpa using h4))
  rw[words_run cur _ h1 hp,words_run cur _ h2 h3,ih]
theorem Tx.words {a b:Bs} (h:Tx a b):words a=Mk.words b:=h.wordsA []
end Go.Mk
namespace Go.Cp
open Go Go.Mk
def AccQ (a a' :Bs):Prop:=Tx a a' ∨2000<a.length
theorem AccQ.add {a a' p p' :Bs} (h:AccQ a a') (g:Tx p p'):AccQ (addB a p) (addB a' p'):=by
 unfold addB
 by_cases hl:a.length≤2000
 ·rw[if_pos hl]
  have ht:Tx a a' :=h.resolve_right (by omega);have:=ht.len;rw[if_pos (by omega)];exact .inl (ht.append g)
 ·rw[if_neg hl]
  exact .inr (by omega)
def ErQ (r r' :Er):Prop:=r.er=5∨(r'.er=r.er∧(r.er=0→Tx r.txt r'.txt))
theorem AccQ.told {a a' :Bs} (h:AccQ a a') (k:Nat):ErQ (toldB a k) (toldB a' k):=by
 unfold toldB
 by_cases hl:2000<a.length
 ·rw[if_pos hl];exact .inl rfl
 ·have ht:Tx a a' :=h.resolve_right hl
  have:=ht.len;rw[if_neg hl,if_neg (by omega)];exact .inr ⟨rfl,fun _=>ht⟩
theorem exp_like {N:Bs→Nv}:∀(f:Nat) (m:List Bs) (k:Nat) (a a' t t' :Bs) (r:Er),AccQ a a' →Tx t t' →expF N (fun _=>none) f m k a t=some r→∃r',expF N (fun _=>none) f m k a' t' =some r' ∧ErQ r r'
 |0,_,_,_,_,_,_,_,_,_,h=>by cases h
 |f+1,m,k,a,a',t,t',r,ha,ht,h=>by
  obtain⟨h1,h2,h3⟩:=ht.at (c:=36) (by decide);rw[expF] at h⊢;rw[←h1];have hadd:=ha.add h2;split
  ·rename_i e
   rw[if_pos e] at h;cases h;exact⟨_,rfl,hadd.told k⟩
  ·rename_i e
   rw[if_neg e] at h
   rcases h3.head with⟨e1,e2⟩|⟨c,u,u',e1,e2,hu⟩|⟨c,u,d,u',e1,e2,b1,b2⟩
   ·rw[e1] at h
    rw[e2];cases h;exact⟨_,rfl,.inr ⟨rfl,fun q=>by cases q⟩⟩
   ·rw[e1] at h
    rw[e2];simp only at h⊢;split
    ·rename_i g1
     rw[if_pos g1] at h;exact exp_like f m k _ _ _ _ r (hadd.add (Tx.refl _)) hu h
    ·rename_i g1
     rw[if_neg g1] at h;split
     ·rename_i g2
      rw[if_pos g2] at h;obtain⟨k1,k2,k3⟩:=hu.at (c:=41) (by decide);obtain⟨n1,n2⟩:=k2.name;rw[←k1,←n1];split
      ·rename_i g3
       rw[if_pos g3] at h;cases h;exact⟨_,rfl,.inr ⟨rfl,fun q=>by cases q⟩⟩
      ·rename_i g3
       rw[if_neg g3] at h
       have hn:isName (before 41 u)=true:=by
        cases q:isName (before 41 u) with
        |true=>rfl
        |false=>exact absurd (.inr q) g3
       rw[←n2 hn];split
       ·rename_i g4
        rw[if_pos g4] at h;cases h;exact⟨_,rfl,.inl rfl⟩
       ·rename_i g4
        rw[if_neg g4] at h;split
        ·rename_i g5
         rw[if_pos g5] at h;split
         ·rename_i g6
          rw[if_pos g6] at h;cases h;exact⟨_,rfl,.inr ⟨rfl,fun q=>by cases q⟩⟩
         ·rename_i g6
          rw[if_neg g6] at h;cases hq:expF N (fun _=>none) f (m++[before 41 u]) (k+1) [] (N (before 41 u)).text with
          |none=>rw[hq] at h;cases h
          |some q=>
           rw[hq] at h;simp only at h⊢;split
           ·rename_i g7
            rw[if_pos g7] at h;exact exp_like f m _ _ _ _ _ r (hadd.add (Tx.refl _)) k3 h
           ·rename_i g7
            rw[if_neg g7] at h;cases h;exact⟨_,rfl,.inr ⟨rfl,fun e=>absurd e g7⟩⟩
        ·rename_i g5
         rw[if_neg g5] at h;exact exp_like f m _ _ _ _ _ r (hadd.add (Tx.refl _)) k3 h
     ·rename_i g2
      rw[if_neg g2] at h;cases h;exact⟨_,rfl,.inr ⟨rfl,fun q=>by cases q⟩⟩
   ·rw[e1] at h
    rw[e2];simp only at h⊢;have c1:c≠36:=fun e=>by subst e;revert b1;decide
    have c2:c≠40:=fun e=>by subst e;revert b1;decide
    have d1:d≠36:=fun e=>by subst e;revert b2;decide
    have d2:d≠40:=fun e=>by subst e;revert b2;decide
    rw[if_neg c1,if_neg c2] at h;rw[if_neg d1,if_neg d2];cases h;exact⟨_,rfl,.inr ⟨rfl,fun q=>by cases q⟩⟩
end Go.Cp
namespace Go.Mk
open Go
theorem words_some:∀(t cur:Bs),cur≠[]→∃w ws,wordsA cur t=w::ws
 |[],cur,h=>⟨cur,[],by rw[wordsA,if_neg (by simpa using h)]⟩
 |c::r,cur,h=>by
  rw[wordsA];split
  ·rw[if_neg (by simpa using h)];exact⟨_,_,rfl⟩
  ·exact words_some r _ (by simp)
theorem tx_words:∀(n:Nat) (t cur:Bs),t.length≤n→cur≠[]→NE t→Tx (cur++t) ([32].intercalate (wordsA cur t))
 |_,[],cur,_,h,_=>by
  rw[wordsA,if_neg (by simpa using h),inter_one,List.append_nil];exact Tx.refl _
 |0,c::r,_,hn,_,_=>by simp at hn
 |n+1,c::r,cur,hn,h,he=>by
  have hl:r.length≤n:=by simpa using hn
  have her:NE r:=fun d hd=>he d (by
   cases r with
   |nil=>cases hd
   |cons x s=>rw[List.getLast?_cons_cons];exact hd)
  rw[wordsA];cases hc:blk c with
  |false=>
   rw[if_neg (by simp)];have:=tx_words n r (cur++[c]) hl (by simp) her;rw[List.append_assoc] at this;exact this
  |true=>
   rw[if_pos rfl,if_neg (by simpa using h)];have hsp:=List.takeWhile_append_dropWhile (p:=blk) (l:=r);have hall:(r.takeWhile blk).all blk=true:=List.all_eq_true.2 fun x hx=>takeWhile_all _ _ _ hx
   cases hd:r.dropWhile blk with
   |nil=>
    exfalso;rw[hd,List.append_nil] at hsp;have hne:(c::r)≠[]:=by simp
    have hlast:=List.getLast?_eq_some_getLast hne;have hb:=he _ hlast;have hm:=List.getLast_mem hne
    rcases List.mem_cons.1 hm with e|e
    ·rw[e,hc] at hb;cases hb
    ·rw[hsp] at hall
     rw[List.all_eq_true.1 hall _ e] at hb;cases hb
   |cons d s=>
    have hdb:blk d=false:=dropWhile_head blk r d (by rw[hd];rfl)
    have hw:wordsA [] r=wordsA [d] s:=by
     rw[←hsp,words_skip _ hall,hd,wordsA,hdb];rfl
    have hes:NE s:=fun x hx=>her x (by
     rw[←hsp,hd];cases s with
     |nil=>cases hx
     |cons y z=>
      rw[List.getLast?_append,List.getLast?_cons_cons,hx];rfl)
    have hls:s.length≤n:=by
     have:=congrArg List.length hsp;rw[List.length_append,hd,List.length_cons] at this;omega
    have ih:=tx_words n s [d] hls (by simp) hes;obtain⟨w,ws,hww⟩:=words_some s [d] (by simp);rw[hw,hww,inter_two,←hww];refine(Tx.refl cur).append ?_;have h1:c::r=(c::r.takeWhile blk)++(d::s):=by rw[List.cons_append,←hd,hsp]
    rw[h1];exact Tx.run (p:=c::r.takeWhile blk) (q:=[32]) (by rw[List.all_cons,hc,hall];rfl) rfl (by simp) (by simp) ih
theorem tx_blank {t:Bs} (h1:NB t) (h2:NE t):Tx t (oneBlank t):=by
 unfold oneBlank words;cases t with
 |nil=>exact .nil
 |cons d s=>
  have hb:=h1 d rfl;rw[wordsA,hb]
  have hes:NE s:=fun x hx=>h2 x (by
   cases s with
   |nil=>cases hx
   |cons y z=>rw[List.getLast?_cons_cons];exact hx)
  exact tx_words _ s [d] (Nat.le_refl _) (by simp) hes
structure LikeX (x y:Ln×Nat):Prop where
 ok:y.2=x.2
 kind:y.1.kind=x.1.kind
 cmd:x.1.kind=1→y.1.right=x.1.right
 inc:x.1.kind=2→Tx x.1.right y.1.right
 asg:x.1.kind≠1→x.1.kind≠2→x.1.kind≠5→y.1.left=x.1.left∧y.1.right=x.1.right
 rule:x.1.kind=5→Tx x.1.left y.1.left∧Tx x.1.right y.1.right
theorem LikeX.refl (x:Ln×Nat):LikeX x x:=⟨rfl,rfl,fun _=>rfl,fun _=>Tx.refl _,fun _ _ _=>⟨rfl,rfl⟩,fun _=>⟨Tx.refl _,Tx.refl _⟩⟩
theorem noBack_end (p:Bs):endsBack (noBack p)=false:=by
 unfold endsBack noBack;rw[List.getLast?_reverse]
 have:∀l:Bs,((l.dropWhile (·==92)).head?==some 92)=false:=fun l=>by
  induction l with
  |nil=>rfl
  |cons c r ih=>
   rw[List.dropWhile_cons];split
   ·exact ih
   ·rename_i h
    simp only[List.head?_cons];rw[beq_eq_false_iff_ne];intro e;cases e;exact h rfl
 exact this _
theorem end_append {a b:Bs} (ha:endsBack a=false) (hb:endsBack b=false):endsBack (a++b)=false:=by
 unfold endsBack at*;rw[List.getLast?_append];cases hl:b.getLast? with
 |none=>exact ha
 |some c=>rw[hl] at hb;exact hb
theorem take1_noback:∀(ps:List Bs) (acc:Bs) (used:Nat) (p:Bs),endsBack acc=false→endsBack (take1 acc used p ps).1=false
 |[],acc,used,p,h=>end_append h (noBack_end p)
 |q::qs,acc,used,p,h=>by
  unfold take1;split
  ·exact take1_noback qs _ _ _ (by rw[endsBack_snoc];rfl)
  ·rename_i hp
   exact end_append h (by simpa using hp)
theorem joinF_end:∀(f n:Nat) (ss:List Bs),∀x∈joinF f n ss,endsBack x.2=false
 |0,_,_,x,hx=>by cases hx
 |_+1,_,[],x,hx=>by cases hx
 |f+1,n,p::ps,x,hx=>by
  rw[joinF] at hx
  rcases List.mem_cons.1 hx with rfl|hx
  ·exact take1_noback ps [] 1 p rfl
  ·exact joinF_end f _ _ x hx
theorem end_cutL {w:Bs} (h:endsBack w=false):endsBack (cutL w)=false:=by
 unfold cutL;have hsp:=List.takeWhile_append_dropWhile (p:=blk) (l:=w);unfold endsBack at h⊢;rw[←hsp,List.getLast?_append] at h;cases hl:(w.dropWhile blk).getLast? with
 |none=>rfl
 |some c=>rw[hl] at h;exact h
theorem parse_le (w:Bs):(parse w).1.kind≤5∧((parse w).1.kind=1→(parse w).1.right=cutL w)∧NB (parse w).1.left∧NE (parse w).1.left∧((parse w).1.kind≠1→NB (parse w).1.right∧NE (parse w).1.right):=by
 have z:NB ([]:Bs)∧NE ([]:Bs):=⟨fun c h=>(by cases h),fun c h=>(by cases h)⟩;unfold parse;split
 ·unfold parseCmd
  split
  ·exact⟨by decide,fun h=>(by cases h),z.1,z.2,fun _=>z⟩
  ·exact⟨by show 1≤5;decide,fun _=>rfl,z.1,z.2,fun h=>absurd rfl h⟩
 ·split
  ·exact⟨by decide,fun h=>(by cases h),z.1,z.2,fun _=>z⟩
  ·split
   ·unfold parseIncl
    split
    ·exact⟨by decide,fun h=>(by cases h),z.1,z.2,fun _=>z⟩
    ·exact⟨by show 2≤5;decide,fun h=>(by cases h),z.1,z.2,fun _=>⟨nb_cut _,ne_cut _⟩⟩
   ·unfold parseSides
    split
    ·exact⟨by decide,fun h=>(by cases h),z.1,z.2,fun _=>z⟩
    ·split
     ·have hk:∀x:Bs,(kindOf x).1≤5∧(kindOf x).1≠1:=fun x=>by unfold kindOf;split<;>simp
      exact⟨(hk _).1,fun h=>absurd h (hk _).2,nb_cut _,ne_cut _,fun _=>⟨nb_cut _,ne_cut _⟩⟩
     ·exact⟨by decide,fun h=>(by cases h),z.1,z.2,fun _=>z⟩
theorem all_like {t:Bs} {x:Ln×Nat} (h:x∈allF (joined t)) (h0:x.2=0):Sound x∧∀l',LikeL x.1 l' →l'.kind=x.1.kind→∀n,LikeX x ({l' with number:=n},0):=by
 refine⟨all_sound h h0,fun l' hl hk n=> ?_⟩;obtain⟨y,hy,rfl⟩:=allF_mem h;obtain⟨p1,p2,p3,p4,p5⟩:=parse_le y.2
 have hnz:(parse y.2).1.kind≠0:=by
  have:=allF_kind h h0;exact this
 refine⟨h0.symm,hk,fun e=> ?_,fun e=> ?_,fun e1 e2 e5=>hl.2.2.1 (show (parse y.2).1.kind=3∨(parse y.2).1.kind=4 from(by
  have e1' :(parse y.2).1.kind≠1:=e1;have e2' :(parse y.2).1.kind≠2:=e2;have e5' :(parse y.2).1.kind≠5:=e5
  omega)),fun e=> ?_⟩
 ·refine hl.1 e ?_
  show endsBack (parse y.2).1.right=false;rw[p2 e];exact end_cutL (joinF_end _ _ _ y hy)
 ·have:l'.right=oneBlank (parse y.2).1.right:=hl.2.1 e
  rw[this];have hne:(parse y.2).1.kind≠1:=fun q=>by rw[show (parse y.2).1.kind=2 from e] at q;cases q
  exact tx_blank (p5 hne).1 (p5 hne).2
 ·have:l'.left=oneBlank (parse y.2).1.left∧l'.right=oneBlank (parse y.2).1.right:=hl.2.2.2 e
  rw[this.1,this.2];have hne:(parse y.2).1.kind≠1:=fun q=>by rw[show (parse y.2).1.kind=5 from e] at q;cases q
  exact⟨tx_blank p3 p4,tx_blank (p5 hne).1 (p5 hne).2⟩
inductive LikeS:List (Ln×Nat)→List (Ln×Nat)→Prop
 |nil:LikeS [] []
 |cons {x y:Ln×Nat} {L M:List (Ln×Nat)}:LikeX x y→LikeS L M→LikeS (x::L) (y::M)
theorem LikeS.refl:∀L:List (Ln×Nat),LikeS L L
 |[]=> .nil
 |x::r=> .cons (LikeX.refl x) (LikeS.refl r)
theorem like_all:∀(L:List (Ln×Nat)) (f n:Nat),(∀x∈L,Sound x∧∀l',LikeL x.1 l' →l'.kind=x.1.kind→∀n,LikeX x ({l' with number:=n},0))→L.length+1≤f→LikeS L (allF (joinF f n (L.map out++[[]])))
 |[],f,n,_,hf=>by
  obtain⟨g,rfl⟩:∃g,f=g+1:=⟨f-1,by simp at hf;omega⟩;have:allF (joinF (g+1) n (([]:List (Ln×Nat)).map out++[[]]))=[]:=by cases g<;>rfl
  rw[this];exact .nil
 |(l,e)::r,f,n,hs,hf=>by
  obtain⟨g,rfl⟩:∃g,f=g+1:=⟨f-1,by simp at hf;omega⟩;obtain⟨⟨hk0,l',hp,hk,hc,_,hl⟩,hlike⟩:=hs (l,e) (List.mem_cons_self ..);have hrest:∃q qs,r.map out++[[]]=q::qs:=by cases r<;>exact⟨_,_,rfl⟩
  obtain⟨q,qs,hq⟩:=hrest
  have ht1:take1 [] 1 (out (l,e)) (r.map out++[[]])=(out (l,e),1,r.map out++[[]]):=by
   rw[hq,take1,show endsBack (out (l,e))=false from endsBack_closed _];rfl
  have ih:=like_all r g (n+1) (fun x hx=>hs x (List.mem_cons_of_mem _ hx)) (by simp at hf⊢;omega);rw[List.map_cons,List.cons_append,joinF,ht1];simp only;rw[allF,hp];have hk' :(l'.kind==0)=false:=by rw[beq_eq_false_iff_ne,hk];exact hk0
  simp only[hk',Bool.and_false,Bool.false_eq_true,if_false,beq_self_eq_true,if_true];exact .cons (hlike l' hl hk n) ih
theorem plain_like (t:Bs) (h:(plainOf t).2.1=0):LikeS (allF (joined t)) (allF (joined (plainOf t).1)):=by
 obtain⟨op',h1,-⟩:=textF_ok (allF (joined t)) false [] h;have hz:=textTo_zero _ _ _ _ h1;have hs:∀x∈allF (joined t),Sound x:=fun x hx=>all_sound hx (hz x hx)
 have hc:=textTo_cat _ _ _ _ _ h1;rw[List.nil_append] at hc;have hsg:=segs_all _ hs;rw[←hc] at hsg;show LikeS _ (allF (joined (textF false [] (allF (joined t))).1));unfold joined at hsg⊢;rw[hsg];exact like_all _ _ 1 (fun x hx=>all_like hx (hz x hx)) (by simp)
end Go.Mk
