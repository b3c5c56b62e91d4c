/-
  Words for the walks over plans: bytes of a text, boxes in memory.
-/
import Derived.RowKit
import Derived.RangeFuncNested
import Derived.RangeFuncBound
import Derived.RangeFuncLeaves
import Derived.Test.YtjelacjggijmfaaGreatDoorChecked
import Derived.WalkKit
import Derived.WalkSpells
import Derived.WalkLawsBesides
import Derived.Lib.Strings
import Derived.Lib.OthersKept
namespace Go.Mk
abbrev Bs:=List UInt8
def blk (c:UInt8):Bool:=c==32||c==9
def cutL (l:Bs):Bs:=l.dropWhile blk
def cutR (l:Bs):Bs:=(l.reverse.dropWhile blk).reverse
def cut (l:Bs):Bs:=cutL (cutR l)
def noBack (l:Bs):Bs:=(l.reverse.dropWhile (·==92)).reverse
def endsBack (l:Bs):Bool:=l.getLast?==some 92
def segs:Bs→List Bs
 |[]=>[[]]
 |c::r=>if c==10 then []::segs r else(c::(segs r).headD [])::(segs r).tail
def take1:Bs→Nat→Bs→List Bs→Bs×Nat×List Bs
 |acc,used,p,[]=>(acc++noBack p,used,[])
 |acc,used,p,q::qs=>if endsBack p then take1 (acc++p.dropLast++[32]) (used+1) (cutL q) qs else(acc++p,used,q::qs)
def joinF:Nat→Nat→List Bs→List (Nat×Bs)
 |0,_,_=>[]
 |_+1,_,[]=>[]
 |f+1,n,p::ps=>(n,(take1 [] 1 p ps).1)::joinF f (n+(take1 [] 1 p ps).2.1) (take1 [] 1 p ps).2.2
def joined (t:Bs):List (Nat×Bs):=joinF (segs t).length 1 (segs t)
structure Ln where
 number:Nat
 kind:Nat
 left:Bs
 right:Bs
def Ln.zero:Ln:=⟨0,0,[],[]⟩
def incl:Bs:=[105,110,99,108,117,100,101]
def before (c:UInt8) (l:Bs):Bs:=l.takeWhile (fun x=> !(x==c))
def letter (c:UInt8):Bool:=(65≤c&&c≤90)||(97≤c&&c≤122)||(48≤c&&c≤57)||c==95
def isName (l:Bs):Bool:= !l.isEmpty&&decide (l.length≤16)&&l.all letter
def noSign (c:UInt8):Bool:= !(c==61||c==58)
def kindOf:Bs→Nat×Bs
 |58::61::b=>(3,b)
 |61::b=>(4,b)
 |l=>(5,l.tail)
def mayStand (kind:Nat) (left:Bs):Bool:=
 if left==incl then false else if kind==5 then !left.isEmpty else isName left
def parseCmd (w:Bs):Ln:=if(cutL w).isEmpty then Ln.zero else⟨0,1,[],cutL w⟩
def isIncl (t:Bs):Bool:=incl.isPrefixOf t&&(match t.drop 7 with|[]=>true|c::_=>blk c)
def parseIncl (b:Bs):Ln×Nat:=if b.isEmpty then(Ln.zero,1) else(⟨0,2,[],b⟩,0)
def parseSides (t:Bs):Ln×Nat:=
 if(t.dropWhile noSign).isEmpty then(Ln.zero,1)
 else if mayStand (kindOf (t.dropWhile noSign)).1 (cut (t.takeWhile noSign)) then(⟨0,(kindOf (t.dropWhile noSign)).1,cut (t.takeWhile noSign),cut (kindOf (t.dropWhile noSign)).2⟩,0)
 else(Ln.zero,1)
def parse (w:Bs):Ln×Nat:=
 if [9].isPrefixOf w then(parseCmd w,0)
 else if(cut (before 35 w)).isEmpty then(Ln.zero,0)
 else if isIncl (cut (before 35 w)) then parseIncl (cut ((cut (before 35 w)).drop 7))
 else parseSides (cut (before 35 w))
def allF:List (Nat×Bs)→List (Ln×Nat)
 |[]=>[]
 |(n,w)::r=>if(parse w).2==0&&(parse w).1.kind==0 then allF r
  else({(parse w).1 with number:=n},(parse w).2)::(if (parse w).2==0 then allF r else [])
def wordsA:Bs→Bs→List Bs
 |cur,[]=>if cur.isEmpty then [] else [cur]
 |cur,c::r=>if blk c then(if cur.isEmpty then wordsA [] r else cur::wordsA [] r) else wordsA (cur++[c]) r
def words (l:Bs):List Bs:=wordsA [] l
def oneBlank (l:Bs):Bs:=[32].intercalate (words l)
def sides (left sign right:Bs):Bs:=if right.isEmpty then left++[32]++sign else left++[32]++sign++[32]++right
def written (l:Ln):Bs:=
 if l.kind==1 then [9]++l.right
 else if l.kind==2 then incl++[32]++oneBlank l.right
 else if l.kind==3 then sides l.left [58,61] l.right
 else if l.kind==4 then sides l.left [61] l.right
 else sides (oneBlank l.left) [58] (oneBlank l.right)
def joinLn (ls:List Bs):Bs:=ls.flatMap fun l=>l++[10]
theorem segs_catW:∀(l r:Bs),10∉l→segs (l++10::r)=l::segs r
 |[],r,_=>by rw[List.nil_append,segs];rfl
 |c::l,r,h=>by
  have hc:(c==10)=false:=by
   rw[beq_eq_false_iff_ne];exact fun e=>h (by rw[e];exact List.mem_cons_self ..)
  have ih:=segs_catW l r fun q=>h (List.mem_cons_of_mem _ q)
  rw[List.cons_append,segs,hc,ih];rfl
theorem segs_joinLn:∀ls:List Bs,(∀l∈ls,10∉l)→segs (joinLn ls)=ls++[[]]
 |[],_=>rfl
 |l::r,h=>by
  have ih:=segs_joinLn r fun x hx=>h x (List.mem_cons_of_mem _ hx)
  have e:joinLn (l::r)=l++10::joinLn r:=by
   unfold joinLn;rw[List.flatMap_cons];simp
  rw[e,segs_catW l _ (h l (List.mem_cons_self ..)),ih];rfl
def numb:Nat→List Bs→List (Nat×Bs)
 |_,[]=>[]
 |n,l::r=>(n,l)::numb (n+1) r
theorem join_numb:∀(ls:List Bs) (f n:Nat),(∀l∈ls,endsBack l=false)→ls.length<f→joinF f n (ls++[[]])=numb n (ls++[[]])
 |[],f,n,_,hf=>by
  cases f with
  |zero=>cases hf
  |succ f=>
   cases f with
   |zero=>rfl
   |succ f=>rfl
 |l::r,f,n,h,hf=>by
  cases f with
  |zero=>cases hf
  |succ f=>
   have ih:=join_numb r f (n+1) (fun x hx=>h x (List.mem_cons_of_mem _ hx)) (by simpa using hf);have hl:=h l (List.mem_cons_self ..)
   have e:take1 [] 1 l (r++[[]])=(l,1,r++[[]]):=by
    cases r with
    |nil=>show(if endsBack l then _ else([]++l,1,[[]]))=_;rw[hl];rfl
    |cons y s=>show(if endsBack l then _ else([]++l,1,y::(s++[[]])))=_;rw[hl];rfl
   rw[List.cons_append,joinF,e,numb,ih]
theorem joined_joinLn (ls:List Bs) (h1:∀l∈ls,10∉l) (h2:∀l∈ls,endsBack l=false):joined (joinLn ls)=numb 1 (ls++[[]]):=by
 unfold joined;rw[segs_joinLn ls h1];exact join_numb ls _ 1 h2 (by simp)
theorem allF_numb (P:Bs→Ln):∀(ls:List Bs) (n:Nat),(∀l∈ls,parse l=(P l,0)∧(P l).kind≠0)→allF (numb n (ls++[[]]))=(numb n ls).map fun x=>({P x.2 with number:=x.1},0)
 |[],_,_=>rfl
 |l::r,n,h=>by
  obtain⟨h1,h2⟩:=h l (List.mem_cons_self ..);have ih:=allF_numb P r (n+1) fun x hx=>h x (List.mem_cons_of_mem _ hx)
  rw[List.cons_append,numb,allF,h1];have e:((P l).kind==0)=false:=by rw[beq_eq_false_iff_ne];exact h2
  simp only[e];rw[numb,List.map_cons,ih];rfl
theorem allF_joinLn (P:Bs→Ln) (ls:List Bs) (h1:∀l∈ls,10∉l) (h2:∀l∈ls,endsBack l=false) (h3:∀l∈ls,parse l=(P l,0)∧(P l).kind≠0):allF (joined (joinLn ls))=(numb 1 ls).map fun x=>({P x.2 with number:=x.1},0):=by
 rw[joined_joinLn ls h1 h2];exact allF_numb P ls 1 h3
def nmB (k:Nat):Bs:=[110,UInt8.ofNat (97+k)]
def needT (J:List Nat):Bs:=J.flatMap fun j=>32::nmB j
def ruleL (i:Nat) (J:List Nat):Bs:=nmB i++58::needT J
def cmdL:Bs:=[9,119,32,36,64]
theorem letter_neW:∀k,k<12→UInt8.ofNat (97+k)≠10∧UInt8.ofNat (97+k)≠92∧UInt8.ofNat (97+k)≠35∧blk (UInt8.ofNat (97+k))=false∧noSign (UInt8.ofNat (97+k))=true∧UInt8.ofNat (97+k)≠37∧UInt8.ofNat (97+k)≠36:=by decide
theorem letter_injW:∀k,k<12→∀j,j<12→UInt8.ofNat (97+k)=UInt8.ofNat (97+j)→k=j:=by decide
theorem nmB_inj {k j:Nat} (hk:k<12) (hj:j<12) (h:nmB k=nmB j):k=j:=by
 unfold nmB at h;simp only[List.cons.injEq,and_true,true_and] at h;exact letter_injW k hk j hj h
theorem needT_cons (j:Nat) (J:List Nat):needT (j::J)=32::110::UInt8.ofNat (97+j)::needT J:=by
 unfold needT;rw[List.flatMap_cons];rfl
theorem needT_mem:∀(J:List Nat) (c:UInt8),c∈needT J→c=32∨c=110∨∃j∈J,c=UInt8.ofNat (97+j)
 |[],c,h=>by cases h
 |j::J,c,h=>by
  rw[needT_cons] at h
  rcases List.mem_cons.1 h with q|h
  ·exact .inl q
  ·rcases List.mem_cons.1 h with q|h
   ·exact .inr (.inl q)
   ·rcases List.mem_cons.1 h with q|h
    ·exact .inr (.inr ⟨j,List.mem_cons_self ..,q⟩)
    ·rcases needT_mem J c h with q|q|⟨i,q1,q2⟩
     ·exact .inl q
     ·exact .inr (.inl q)
     ·exact .inr (.inr ⟨i,List.mem_cons_of_mem _ q1,q2⟩)
theorem needT_last:∀(J:List Nat),J≠[]→(∀j∈J,j<12)→∃l j,j<12∧needT J=l++[UInt8.ofNat (97+j)]
 |[],h,_=>absurd rfl h
 |j::J,_,hJ=>by
  rw[needT_cons];cases J with
  |nil=>exact⟨[32,110],j,hJ j (List.mem_cons_self ..),rfl⟩
  |cons i K=>
   obtain⟨l,k,hk,e⟩:=needT_last (i::K) (by simp) fun x hx=>hJ x (List.mem_cons_of_mem _ hx)
   exact⟨32::110::UInt8.ofNat (97+j)::l,k,hk,by rw[e];rfl⟩
theorem cutR_snocW (l:Bs) (c:UInt8) (h:blk c=false):cutR (l++[c])=l++[c]:=by
 unfold cutR;rw[List.reverse_append];simp[h]
theorem cutL_consW (l:Bs) (c:UInt8) (h:blk c=false):cutL (c::l)=c::l:=by
 unfold cutL;rw[List.dropWhile_cons,h];rfl
theorem before_noneW:∀(w:Bs) (c:UInt8),c∉w→before c w=w
 |[],_,_=>rfl
 |x::r,c,h=>by
  unfold before
  have hx:(x==c)=false:=by
   rw[beq_eq_false_iff_ne];exact fun e=>h (by rw[e];exact List.mem_cons_self ..)
  rw[List.takeWhile_cons,hx];have:=before_noneW r c fun q=>h (List.mem_cons_of_mem _ q)
  unfold before at this;simp[this]
section
variable {i:Nat} {J:List Nat}
theorem ruleL_mem (c:UInt8) (h:c∈ruleL i J):c=110∨c=UInt8.ofNat (97+i)∨c=58∨c=32∨∃j∈J,c=UInt8.ofNat (97+j):=by
 unfold ruleL nmB at h;simp only[List.cons_append,List.nil_append,List.mem_cons] at h
 rcases h with h|h|h|h
 ·exact .inl h
 ·exact .inr (.inl h)
 ·exact .inr (.inr (.inl h))
 ·rcases needT_mem J c h with q|q|q
  ·exact .inr (.inr (.inr (.inl q)))
  ·exact .inl q
  ·exact .inr (.inr (.inr (.inr q)))
theorem ruleL_not (hi:i<12) (hJ:∀j∈J,j<12) (c:UInt8) (h1:c≠110) (h2:c≠58) (h3:c≠32) (h4:∀k,k<12→UInt8.ofNat (97+k)≠c):c∉ruleL i J:=fun h=>by
 rcases ruleL_mem c h with q|q|q|q|⟨j,q1,q2⟩
 ·exact h1 q
 ·exact h4 i hi q.symm
 ·exact h2 q
 ·exact h3 q
 ·exact h4 j (hJ j q1) q2.symm
theorem ruleL_last (hJ:∀j∈J,j<12):∃l c,ruleL i J=l++[c]∧blk c=false∧c≠92:=by
 unfold ruleL;cases hj:J with
 |nil=>exact⟨nmB i,58,rfl,by decide,by decide⟩
 |cons j K=>
  obtain⟨l,k,hk,e⟩:=needT_last (j::K) (by simp) (by rw[←hj];exact hJ);refine⟨nmB i++58::l,UInt8.ofNat (97+k),by rw[e];simp,(letter_neW k hk).2.2.2.1,(letter_neW k hk).2.1⟩
theorem cut_needT (hJ:∀j∈J,j<12):cut (needT J)=(needT J).drop 1:=by
 unfold cut;cases hj:J with
 |nil=>rfl
 |cons j K=>
  obtain⟨l,k,hk,e⟩:=needT_last (j::K) (by simp) (by rw[←hj];exact hJ);rw[e,cutR_snocW _ _ (letter_neW k hk).2.2.2.1,←e,needT_cons];unfold cutL;rw[List.dropWhile_cons];show(if blk 32=true then _ else _)=_;rw[if_pos (by decide),List.dropWhile_cons];show(if blk 110=true then _ else _)=_;rw[if_neg (by decide)];rfl
theorem parse_ruleL (hi:i<12) (hJ:∀j∈J,j<12):parse (ruleL i J)=(⟨0,5,nmB i,(needT J).drop 1⟩,0):=by
 have h35:before 35 (ruleL i J)=ruleL i J:=before_noneW _ _ (ruleL_not hi hJ 35 (by decide) (by decide) (by decide) fun k hk=>(letter_neW k hk).2.2.1)
 have hcut:cut (ruleL i J)=ruleL i J:=by
  obtain⟨l,c,e,hb,_⟩:=ruleL_last (i:=i) hJ;unfold cut;rw[e,cutR_snocW l c hb,←e];exact cutL_consW _ _ (by decide)
 have hnl:=letter_neW i hi
 have e1:(ruleL i J).dropWhile noSign=58::needT J:=by
  unfold ruleL nmB;rw[List.cons_append,List.dropWhile_cons,show noSign 110=true by decide,if_pos rfl,List.cons_append,List.dropWhile_cons,hnl.2.2.2.2.1,if_pos rfl,List.nil_append,List.dropWhile_cons,show noSign 58=false by decide];rfl
 have e2:(ruleL i J).takeWhile noSign=nmB i:=by
  unfold ruleL nmB;rw[List.cons_append,List.takeWhile_cons,show noSign 110=true by decide,if_pos rfl,List.cons_append,List.takeWhile_cons,hnl.2.2.2.2.1,if_pos rfl,List.nil_append,List.takeWhile_cons,show noSign 58=false by decide];rfl
 have e3:cut (nmB i)=nmB i:=by
  unfold cut;have:nmB i=[110]++[UInt8.ofNat (97+i)]:=rfl;rw[this,cutR_snocW _ _ hnl.2.2.2.1];exact cutL_consW _ _ (by decide)
 have e4:kindOf (58::needT J)=(5,needT J):=by
  cases J with
  |nil=>rfl
  |cons j K=>rw[needT_cons];rfl
 unfold parse;rw[h35,hcut];have p1:([9]:Bs).isPrefixOf (ruleL i J)=false:=rfl;have p2:(ruleL i J).isEmpty=false:=rfl;have p3:isIncl (ruleL i J)=false:=rfl;rw[p1,p2,p3];simp only[Bool.false_eq_true,if_false];unfold parseSides;rw[e1,e2,e3,e4];have p4:mayStand 5 (nmB i)=true:=rfl;simp only[List.isEmpty_cons,Bool.false_eq_true,if_false,p4,if_true]
 rw[cut_needT hJ]
theorem parse_cmdL:parse cmdL=(⟨0,1,[],[119,32,36,64]⟩,0):=by rfl
theorem wordsA_nm:∀(K:List Nat) (cur:Bs),cur≠[]→(∀j∈K,j<12)→wordsA cur (needT K)=cur::K.map nmB
 |[],cur,hc,_=>by
  show(if cur.isEmpty then [] else [cur])=_;rw[if_neg (by simpa using hc)];rfl
 |j::K,cur,hc,hK=>by
  have hb:=(letter_neW j (hK j (List.mem_cons_self ..))).2.2.2.1;rw[needT_cons,wordsA,if_pos (by decide),if_neg (by simpa using hc),wordsA,if_neg (by decide),wordsA,if_neg (by rw[hb];decide),wordsA_nm K _ (by simp) fun x hx=>hK x (List.mem_cons_of_mem _ hx)];rfl
theorem words_needT (hJ:∀j∈J,j<12):words ((needT J).drop 1)=J.map nmB:=by
 unfold words;cases J with
 |nil=>rfl
 |cons j K=>
  have hb:=(letter_neW j (hJ j (List.mem_cons_self ..))).2.2.2.1;rw[needT_cons];show wordsA [] (110::UInt8.ofNat (97+j)::needT K)=_;rw[wordsA,if_neg (by decide),wordsA,if_neg (by rw[hb];decide),wordsA_nm K _ (by simp) fun x hx=>hJ x (List.mem_cons_of_mem _ hx)];rfl
theorem needT_len (J:List Nat):(needT J).length=3*J.length:=by
 induction J with
 |nil=>rfl
 |cons j K ih=>rw[needT_cons];simp only[List.length_cons,ih];omega
end
end Go.Mk
namespace Go.Pl
abbrev Bs:=List UInt8
abbrev Aw:=Nat→Option Nat
def two (c:Bs) (i:Nat):Nat:=256*(c.getD i 0).toNat+(c.getD (i+1) 0).toNat
def isz (op:Nat):Nat:=if op=1∨op=4∨op=8 then 2 else if op=2∨op=6∨op=7 then 3 else if op=3 then 5 else if op=5 then 1 else 0
structure Ins where
 op:Nat
 at_:Nat
 next:Nat
 first:Nat
 second:Nat
def opAt (c:Bs) (p:Nat):Nat:=(c.getD p 0).toNat
def mkIns (c:Bs) (p:Nat):Ins:=
 ⟨opAt c p,p,p+isz (opAt c p),if isz (opAt c p)=1 then 0 else if isz (opAt c p)=2 then opAt c (p+1) else two c (p+1),if isz (opAt c p)=5 then two c (p+3) else 0⟩
def whole (c:Bs) (p:Nat):Prop:=isz (opAt c p)≠0∧p+isz (opAt c p)≤c.length
def okOps (m:Nat) (i:Ins):Prop:=(i.op=1→i.first≤1)∧(i.op=2∨i.op=7→i.first<m)∧(i.op=3→i.first<m∧i.second<m)
def taken (op:Nat):Nat:=if op=5 then 2 else if op=6 then 1 else 0
def pushed (op:Nat):Nat:=if op=1∨op=2∨op=3∨op=4∨op=5 then 1 else 0
def rise (op h:Nat):Nat:=h-taken op+pushed op
def del (A:Aw) (p:Nat):Aw:=fun q=>if q=p then none else A q
def put (A:Aw) (p h:Nat):Aw:=fun q=>if q=p then some h else A q
def agrees (A:Aw) (p h:Nat):Prop:=∀q,A p=some q→q=h
def onward (A:Aw) (i:Ins) (h:Nat):Aw:=if i.op=6 then put (del A i.at_) (i.next+i.first) (rise i.op h) else del A i.at_
def Snd (c:Bs) (m:Nat):Nat→Nat→Nat→Aw→Prop
 |0,_,_,_=>False
 |f+1,p,h,A=>agrees A p h∧((p<c.length∧whole c p∧okOps m (mkIns c p)∧taken (opAt c p)≤h∧rise (opAt c p) h≤16∧
  (opAt c p=6→agrees (del A p) ((mkIns c p).next+(mkIns c p).first) (rise (opAt c p) h))∧Snd c m f (mkIns c p).next (rise (opAt c p) h) (onward A (mkIns c p) h))∨
  (¬p<c.length∧h=0∧∀q,q≠p→A q=none))
def Spec (c:Bs) (m p h:Nat) (A:Aw):Prop:=∃f,Snd c m f p h A
theorem spec_end {c:Bs} {m p h:Nat} {A:Aw} (hp:¬p<c.length):Spec c m p h A↔agrees A p h∧h=0∧∀q,q≠p→A q=none:=by
 constructor
 ·rintro⟨f,hf⟩
  cases f with
  |zero=>exact hf.elim
  |succ f=>
   obtain⟨h1,h2|h2⟩:=hf
   ·exact absurd h2.1 hp
   ·exact⟨h1,h2.2⟩
 ·rintro⟨h1,h2⟩
  exact⟨1,h1,.inr ⟨hp,h2⟩⟩
theorem spec_step {c:Bs} {m p h:Nat} {A:Aw} (hp:p<c.length):Spec c m p h A↔agrees A p h∧whole c p∧okOps m (mkIns c p)∧taken (opAt c p)≤h∧rise (opAt c p) h≤16∧
 (opAt c p=6→agrees (del A p) ((mkIns c p).next+(mkIns c p).first) (rise (opAt c p) h))∧Spec c m (mkIns c p).next (rise (opAt c p) h) (onward A (mkIns c p) h):=by
 constructor
 ·rintro⟨f,hf⟩
  cases f with
  |zero=>exact hf.elim
  |succ f=>
   obtain⟨h1,h2|h2⟩:=hf
   ·obtain⟨_,a,b,d,e,g,i⟩:=h2
    exact⟨h1,a,b,d,e,g,f,i⟩
   ·exact absurd hp h2.1
 ·rintro⟨h1,a,b,d,e,g,f,i⟩
  exact⟨f+1,h1,.inl ⟨hp,a,b,d,e,g,i⟩⟩
theorem next_gt {c:Bs} {p:Nat} (hw:whole c p):p<(mkIns c p).next:=by have:=hw.1;simp only[mkIns];omega
theorem next_le {c:Bs} {p:Nat} (hw:whole c p):(mkIns c p).next≤c.length:=hw.2
def strs:Nat→Bs→Option (List Bs×Bs)
 |0,r=>some ([],r)
 |n+1,r=>if 2≤r.length∧2+two r 0≤r.length then(strs n (r.drop (2+two r 0))).map fun x=>((r.drop 2).take (two r 0)::x.1,x.2) else none
def load (s:Bs):Option (List Bs×Bs):=if 4≤s.length∧s.take 2=[80,49]∧two s 2≤1000 then strs (two s 2) (s.drop 4) else none
def checkOf (s:Bs):Prop:=∃x,load s=some x∧Spec x.2 x.1.length 0 0 (fun _=>none)
theorem strs_len:∀(n:Nat) (r:Bs) (x:List Bs×Bs),strs n r=some x→x.1.length=n∧x.2.length≤r.length
 |0,r,x,h=>by cases h;exact⟨rfl,Nat.le_refl _⟩
 |n+1,r,x,h=>by
  unfold strs at h;split at h
  ·cases e:strs n (r.drop (2+two r 0)) with
   |none=>rw[e] at h;cases h
   |some y=>
    rw[e] at h;cases h;have:=strs_len n _ y e;simp only[List.length_cons,List.length_drop] at this⊢;omega
  ·cases h
theorem strs_from (n:Nat) (r:Bs) (h:2≤r.length∧2+two r 0≤r.length) (acc:List Bs):
 (strs (n+1) r).map (fun x=>(acc++x.1,x.2))=(strs n (r.drop (2+two r 0))).map (fun x=>((acc++[(r.drop 2).take (two r 0)])++x.1,x.2)):=by
 rw[strs,if_pos h,Option.map_map]
 congr 1
 funext x
 simp
theorem strs_not (n:Nat) (r:Bs) (h:¬(2≤r.length∧2+two r 0≤r.length)):strs (n+1) r=none:=by rw[strs,if_neg h]
def ilist (c:Bs):Nat→Nat→List (Ins×Bool)
 |0,_=>[]
 |f+1,p=>if p<c.length then(if isz (opAt c p)≠0∧p+isz (opAt c p)≤c.length then(mkIns c p,true)::ilist c f (mkIns c p).next else [(⟨0,0,0,0,0⟩,false)]) else []
theorem opAt_lt (c:Bs) (p:Nat):opAt c p<256:=(c.getD p 0).toNat_lt
theorem two_lt (c:Bs) (p:Nat):two c p<65536:=by
 have h1:=(c.getD p 0).toNat_lt;have h2:=(c.getD (p+1) 0).toNat_lt;unfold two;omega
end Go.Pl
namespace Go.Cp
open Go
structure Wr where
 strs:List (List UInt8)
 code:List UInt8
 failed:Bool
def beB (n:Nat):Nat→List UInt8
 |0=>[]
 |1=>[UInt8.ofNat n]
 |_=>[UInt8.ofNat (n/256),UInt8.ofNat n]
def big (n width:Nat):Bool:=decide (256^width≤n)
end Go.Cp
namespace Go.Cp
open Go
def Wr.num (w:Wr) (s:List UInt8):Nat:=(w.strs.findIdx? (fun x=>x==s)).getD w.strs.length
def Wr.str (w:Wr) (s:List UInt8):Wr:=match w.strs.findIdx? (fun x=>x==s) with
 |some _=>w
 |none=>⟨w.strs++[s],w.code,w.failed⟩
end Go.Cp
namespace Go.Cp
open Go
def Wr.put (w:Wr) (n width:Nat):Wr:=⟨w.strs,w.code++beB n width,w.failed||big n width⟩
def Wr.op (w:Wr) (op:Nat):Wr:=⟨w.strs,w.code++[UInt8.ofNat op],w.failed⟩
end Go.Cp
namespace Go.Pl
open Go Go.RowKit
structure File where
 path:Bs
 text:Bs
 time:Int
structure Eff where
 cmd:Bs
 writes:List File
 exit:Int
structure Wd where
 files:List File
 clock:Int
 cmds:List Bs
 exit:Int
def look (fs:List File) (p:Bs):Option File:=fs.find? (fun f=>f.path==p)
def putF:List File→File→List File
 |[],f=>[f]
 |g::r,f=>if g.path==f.path then f::r else g::putF r f
def addF (fs:List File) (f:File):List File:=if(look fs f.path).isSome then fs else fs++[f]
def newW (files:List File) (clock:Int):Wd:=⟨files.foldl addF [],clock,[],0⟩
def stamp (t:Int) (f:File):File:=⟨f.path,f.text,t⟩
def giveW (ef:List Eff) (X:Wd) (c:Bs):Wd:=
 match ef.find? (fun e=>e.cmd==c) with
 |none=>⟨X.files,wrap64 (X.clock+1),X.cmds++[c],X.exit⟩
 |some e=>⟨e.writes.foldl (fun fs f=>putF fs (stamp (wrap64 (X.clock+1)) f)) X.files,wrap64 (X.clock+1),X.cmds++[c],e.exit⟩
def newer (fs:List File) (s t:Bs):Bool:=match look fs s,look fs t with
 |some a,some b=>decide (a.time<b.time)
 |_,_=>false
def act (ss:List Bs) (ef:List Eff) (i:Ins) (st:List Bool) (fl:Nat→Bool) (X:Wd):Nat×List Bool×(Nat→Bool)×Wd:=
 if i.op=1 then(i.next,st++[i.first==1],fl,X)
 else if i.op=2 then(i.next,st++[(look X.files (ss.getD i.first [])).isNone],fl,X)
 else if i.op=3 then(i.next,st++[newer X.files (ss.getD i.first []) (ss.getD i.second [])],fl,X)
 else if i.op=4 then(i.next,st++[fl i.first],fl,X)
 else if i.op=5 then(i.next,st.dropLast.dropLast++[st.getLast?.getD false||st.dropLast.getLast?.getD false],fl,X)
 else if i.op=6 then(if st.getLast?.getD false then i.next else i.next+i.first,st.dropLast,fl,X)
 else if i.op=7 then(i.next,st,fl,giveW ef X (ss.getD i.first []))
 else(i.next,st,fun q=>if q=i.first then true else fl q,X)
def exec (c:Bs) (ss:List Bs) (ef:List Eff):Nat→Nat→List Bool→(Nat→Bool)→Wd→Wd
 |0,_,_,_,X=>X
 |f+1,p,st,fl,X=>if p<c.length∧X.exit=0 then
  exec c ss ef f (act ss ef (mkIns c p) st fl X).1 (act ss ef (mkIns c p) st fl X).2.1 (act ss ef (mkIns c p) st fl X).2.2.1 (act ss ef (mkIns c p) st fl X).2.2.2 else X
theorem exec_end {c:Bs} {ss:List Bs} {ef:List Eff} {f p:Nat} {st:List Bool} {fl:Nat→Bool} {X:Wd} (h:¬(p<c.length∧X.exit=0)):exec c ss ef f p st fl X=X:=by
 cases f with
 |zero=>rfl
 |succ f=>rw[exec,if_neg h]
def insF (f:File):List File→List File
 |[]=>[f]
 |g::r=>if f.path<g.path then f::g::r else g::insF f r
def sortF (fs:List File):List File:=fs.foldl (fun acc f=>insF f acc) []
theorem look_put (fs:List File) (f:File) (q:Bs):look (putF fs f) q=if f.path=q then some f else look fs q:=by
 induction fs with
 |nil=>
  unfold putF look
  by_cases h:f.path=q
  ·simp[h]
  ·simp[h]
 |cons g r ih=>
  unfold putF
  by_cases hg:g.path=f.path
  ·rw[if_pos (by simpa using hg)]
   unfold look
   by_cases h:f.path=q
   ·simp[h]
   ·have h' :¬g.path=q:=by rw[hg];exact h
    simp[h,h']
  ·rw[if_neg (by simpa using hg)]
   unfold look at ih⊢
   by_cases h:g.path=q
   ·have hf:¬f.path=q:=fun e=>hg (h.trans e.symm)
    simp[h,hf]
   ·rw[List.find?_cons_of_neg (by simpa using h),List.find?_cons_of_neg (by simpa using h)]
    exact ih
def Uniq (fs:List File):Prop:=(fs.map (·.path)).Nodup
theorem look_none {fs:List File} {q:Bs}:look fs q=none↔q∉fs.map (·.path):=by
 unfold look;rw[List.find?_eq_none];simp
theorem uniq_add {fs:List File} {f:File} (h:Uniq fs):Uniq (addF fs f):=by
 unfold addF;split
 ·exact h
 ·rename_i k
  have:look fs f.path=none:=by
   cases e:look fs f.path with
   |none=>rfl
   |some x=>rw[e] at k;exact absurd rfl k
  rw[look_none] at this;unfold Uniq at*;rw[List.map_append,List.nodup_append];exact⟨h,by simp,fun a ha b hb=>by simp at hb;subst hb;exact fun e=>this (e▸ha)⟩
theorem put_paths (fs:List File) (f:File):(putF fs f).map (·.path)=if f.path∈fs.map (·.path) then fs.map (·.path) else fs.map (·.path)++[f.path]:=by
 induction fs with
 |nil=>simp[putF]
 |cons g r ih=>
  unfold putF
  by_cases hg:g.path=f.path
  ·rw[if_pos (by simpa using hg)]
   simp[hg]
  ·rw[if_neg (by simpa using hg),List.map_cons,ih]
   have hg' :¬f.path=g.path:=fun e=>hg e.symm
   by_cases k:f.path∈r.map (·.path)
   ·rw[if_pos k,if_pos (by simp only[List.map_cons,List.mem_cons];exact .inr k)];rfl
   ·rw[if_neg k,if_neg (by simp only[List.map_cons,List.mem_cons];exact fun e=>e.elim hg' k)];rfl
theorem uniq_put {fs:List File} {f:File} (h:Uniq fs):Uniq (putF fs f):=by
 unfold Uniq at*;rw[put_paths];split
 ·exact h
 ·rename_i k
  rw[List.nodup_append];exact⟨h,by simp,fun a ha b hb=>by simp at hb;subst hb;exact fun e=>k (e▸ha)⟩
end Go.Pl
namespace Go.Mk
open Go Go.RowKit
variable {P:Program}
theorem callsIn_any {n m:Nat} {f:FuncId} {args:Array Value} {w:World} {R:Ending→World→Prop} (h:CallsIn Fence.wide n P f args w R):CallsIn Fence.wide m P f args w R:=
 callsIn_wide.2 (callsIn_wide.1 h)
theorem roundIn_any {n m l:Nat} {f:FuncId} {tmps:Array Value} {assign body:Code} {w:World} {R:Ending→World→Prop} (h:RoundIn Fence.wide n P l f tmps assign body w R):RoundIn Fence.wide m P l f tmps assign body w R:=
 ⟨h.1,fun c cs _=>h.2 c cs (room_wide _)⟩
theorem roundIn_in {n m l k:Nat} {f:FuncId} {tmps:Array Value} {assign body:Code} {w:World} {R:Ending→World→Prop} (h:RoundIn Fence.wide n P l f tmps assign body w R):RoundIn (Fence.wide.inRound k) m P l f tmps assign body w R:=
 roundIn_any h
def Iter {α:Type} (P:Program) (g:Nat) (lb:Array Value) (encs:α→Array Value) (Kp:Nat→World→World→Prop) (L:List α) (w:World):Prop:=
 ∀(l:Nat) (J Jx:List α→World→Prop) (W:World),l<W.heap.size→Below w.heap.size w W→OwnFrom W.heap.size J→OwnFrom W.heap.size Jx→
  (∀pre x post W1,L=pre++x::post→J pre W1→YieldAt Fence.wide 9 P l (encs x) W1 fun e W' =>
   (e= .returned (.bool true)∧J (pre++[x]) W' ∧Kp l W1 W')∨(e= .returned (.bool false)∧Jx (pre++[x]) W' ∧Kp l W1 W'))→
  J [] W→
  CallsIn Fence.wide 9 P g (#[.func (.yield l) #[] #[]]++lb) W fun e W' =>(∃v,e= .returned v)∧(J L W' ∨∃pre post,L=pre++post∧Jx pre W')
theorem ownFrom_le {β:Type} {B B' :Nat} {I:β→World→Prop} (h:OwnFrom B I) (hB:B≤B'):OwnFrom B' I:=
 fun s X Y row hs hg hr=>h s X Y row hs hg (fun r e=>⟨Nat.le_trans hB (hr r e).1,(hr r e).2⟩)
theorem same_below {X Y:World} {row:Option Nat} {B k:Nat} {o:Obj} (hg:X.grownBy Y row) (hr:∀r,row=some r→B≤r) (hk:k<B) (h:X.heap[k]?=some o):Y.heap[k]?=some o:=
 (hg.block k (Array.getElem?_eq_some_iff.1 h).1 (fun e=>by have:=hr k e.symm;omega)).trans h
def roundPostX {α:Type} (B:Nat) (Kp:World→World→Prop) (I:List α→World→Prop) (Ix:Code→List α→World→Prop) (xs:List α) (W:World):Exit→Act→World→Prop
 | .normal,_,W' =>KeepsFrom B W W' ∧Kp W W' ∧I xs W'
 | .ret,_,W' =>KeepsFrom B W W' ∧Kp W W' ∧Ix .ret xs W'
 | .exit id,_,W' =>KeepsFrom B W W' ∧Kp W W' ∧Ix (.exit id) xs W'
 | .goto t,_,W' =>KeepsFrom B W W' ∧Kp W W' ∧Ix (.goto t) xs W'
 | .panic _,_,_=>False
 | .outgrown,_,_=>False
theorem range_law {α:Type} {g:Operand} {ps:Array Tmp} {assign body:Code} {Q:Exit→Act→World→Prop} {a:Act} {w:World}
 {gf:Nat} {lb:Array Value} (hg:a.eval g= .func (.func gf) #[] lb) (eg:∀args w,(callFunc gf args).run P w= .ok (.enter gf args) w)
 {encs:α→Array Value} {Kp:Nat→World→World→Prop} {L:List α} {w0:World} (hseq:Iter P gf lb encs Kp L w0)
 (hKt:∀{l:Nat} {A B C:World},Kp l A B→Kp l B C→Kp l A C) (hKb:∀(W:World) (l:Nat) (o o' :Obj),w.heap.size≤l→W.heap[l]?=some o→o.isCells=false→Kp l W (W.putObj l o'))
 (hb0:Below w0.heap.size w0 w) (hps:∀x,(encs x).size=ps.size)
 (I:List α→World→Prop) (Ix:Code→List α→World→Prop) (hI:OwnFrom w.heap.size I) (hIx:∀c,OwnFrom w.heap.size (Ix c)) (h0:I [] w)
 (Ax:α→Act→World→Prop) (hAx:∀x a',OwnFrom w.heap.size (fun (_:Unit) W=>Ax x a' W))
 (hassign:∀(l:Nat) (pre:List α) (x:α) (post:List α) (W:World) (K:Act→World→Prop),L=pre++x::post→I pre W→
  (∀a' W',KeepsFrom w.heap.size W W' →Kp l W W' →I pre W' →Ax x a' W' →K a' W')→
  assign.wpIn (Fence.wide.inRound l) 9 P (Exit.then K (fun _ _ _=>False)) {tmps:=(ps.zip (encs x)).foldl (fun t (p,v)=>t.setIfInBounds p v) a.tmps,defers:=[]} W)
 (hbody:∀(l:Nat) (pre:List α) (x:α) (post:List α) (a' :Act) (W:World),L=pre++x::post→I pre W→Ax x a' W→
  body.wpIn (Fence.wide.inRound l) 9 P (roundPostX w.heap.size (Kp l) I Ix (pre++[x]) W) a' W)
 (hdone:∀(D:Nat) (W:World),w.heap.size≤D→I L W→W.heap[D]?=some (.deferred (some []))→Q .normal {a with defers:={target:= .collected D,args:= #[]}::a.defers} W)
 (hstop:∀(D:Nat) (c:Code) (pre post:List α) (W:World),w.heap.size≤D→L=pre++post→Ix c pre W→W.heap[D]?=some (.deferred (some []))→
  c.wpIn Fence.wide 9 P Q {a with defers:={target:= .collected D,args:= #[]}::a.defers} W):
 (Code.rangeFunc g ps assign body).wpIn Fence.wide 9 P Q a w:=by
 refine wpIn_rangeFunc fun fn hfn=> ?_
 --the record of the loop,in a state,with a jump that is left to do
 obtain⟨rc,hrc⟩:∃rc:LoopState→Option Code→Loop,∀s p,rc s p={state:=s,pending:=p,fn:=fn,tmps:=a.tmps,params:=ps,assign:=assign,body:=body,defers:=w.heap.size}:=⟨_,fun _ _=>rfl⟩;obtain⟨V,hV⟩:∃V,V=(w.alloc (.deferred (some []))).alloc (.loop (rc .ready none)):=⟨_,rfl⟩;have hVs:V.heap.size=w.heap.size+2:=by rw[hV];simp
 have hVl:V.heap[w.heap.size+1]?=some (.loop (rc .ready none)):=by
  have:=World.alloc_heap_new (w.alloc (.deferred (some []))) (.loop (rc .ready none));rw[World.size_alloc] at this;rw[hV];exact this
 have hVd:V.heap[w.heap.size]?=some (.deferred (some [])):=by
  rw[hV];exact(Below.heap_alloc _ _ _ (by simp)).trans (World.alloc_heap_new w _)
 --what the iterator is asked to carry on:the caller's own,and the two blocks of the loop
 obtain⟨J,hJ⟩:∃J:List α→World→Prop,J=fun pre W=>I pre W∧W.heap[w.heap.size+1]?=some (.loop (rc .ready none))∧W.heap[w.heap.size]?=some (.deferred (some [])):=⟨_,rfl⟩
 obtain⟨Jx,hJx⟩:∃Jx:List α→World→Prop,Jx=fun pre W=>∃c,Ix c pre W∧W.heap[w.heap.size+1]?=some (.loop (rc .done (some c)))∧W.heap[w.heap.size]?=some (.deferred (some [])):=⟨_,rfl⟩
 have hJo:OwnFrom V.heap.size J:=by
  rw[hJ]
  rintro s X Y row ⟨hi,hl,hd⟩ hgr hr
  have hr' :∀r,row=some r→w.heap.size+2≤r:=fun r e=>by have:=(hr r e).1;omega
  exact⟨hI s X Y row hi hgr (fun r e=>⟨by have:=hr' r e;omega,(hr r e).2⟩),same_below hgr hr' (by omega) hl,same_below hgr hr' (by omega) hd⟩
 have hJxo:OwnFrom V.heap.size Jx:=by
  rw[hJx]
  rintro s X Y row ⟨c,hi,hl,hd⟩ hgr hr
  have hr' :∀r,row=some r→w.heap.size+2≤r:=fun r e=>by have:=(hr r e).1;omega
  exact⟨c,hIx c s X Y row hi hgr (fun r e=>⟨by have:=hr' r e;omega,(hr r e).2⟩),same_below hgr hr' (by omega) hl,same_below hgr hr' (by omega) hd⟩
 have hbV:Below w0.heap.size w0 V:=by
  rw[hV];exact(hb0.alloc hb0.size _).alloc (by have:=hb0.size;simp;omega) _
 have hJ0:J [] V:=by rw[hJ];exact⟨by rw[hV];exact hI.alloc _ (hI.alloc _ h0),hVl,hVd⟩
 --a round
 have hround:∀pre x post W1,L=pre++x::post→J pre W1→YieldAt Fence.wide 9 P (w.heap.size+1) (encs x) W1 fun e W' =>
  (e= .returned (.bool true)∧J (pre++[x]) W' ∧Kp (w.heap.size+1) W1 W')∨(e= .returned (.bool false)∧Jx (pre++[x]) W' ∧Kp (w.heap.size+1) W1 W'):=by
  intro pre x post W1 hL hj;rw[hJ] at hj;obtain⟨hi,hl,hd⟩:=hj;have hy:=run_yield (P:=P) (args:=encs x) hl (by rw[hrc];exact hps x);simp only[hrc] at hy;refine⟨fn,_,assign,body,hy,roundIn_of_wpIn hfn (hassign _ pre x post W1 _ hL hi ?_)⟩;intro a' W2 hkf hkp hi2 hax;have hl2:=hkf.same _ _ (by omega) hl rfl;have hd2:=hkf.same _ _ (Nat.le_refl _) hd rfl
  refine⟨_,run_beginRound hl2 (by rw[hrc]),?_⟩;obtain⟨W3,hW3⟩:∃W3,W3=W2.putObj (w.heap.size+1) (.loop {rc .ready none with state:= .busy}):=⟨_,rfl⟩;rw[←hW3];have hlt:=(Array.getElem?_eq_some_iff.1 hl2).1;have hl3:W3.heap[w.heap.size+1]?=some (.loop {rc .ready none with state:= .busy}):=by rw[hW3];exact World.putObj_heap_same hlt
  have hd3:W3.heap[w.heap.size]?=some (.deferred (some [])):=by rw[hW3];exact(World.putObj_heap_other (by omega)).trans hd2
  have hkp3:Kp (w.heap.size+1) W2 W3:=by rw[hW3];exact hKb _ _ _ _ (by omega) hl2 rfl
  have hi3:I pre W3:=by rw[hW3];exact hI.putObj _ hi2 (by omega) hl2 rfl
  have hax3:Ax x a' W3:=by rw[hW3];exact(hAx x a').putObj (s:=()) _ hax (by omega) hl2 rfl
  refine wpIn_mono (hbody _ pre x post a' W3 hL hi3 hax3) ?_
  --the round's end,by the way in which the body is left
  have fin:∀(jump:Option Code) (W4:World),KeepsFrom w.heap.size W3 W4→∃W5,(Instr.endRound (w.heap.size+1) jump).run P W4= .ok (.bool jump.isNone) W5∧
   W5=W4.putObj (w.heap.size+1) (.loop (rc (if jump.isNone then .ready else .done) jump))∧W4.heap[w.heap.size+1]?=some (.loop {rc .ready none with state:= .busy})∧
   W5.heap[w.heap.size+1]?=some (.loop (rc (if jump.isNone then .ready else .done) jump))∧W5.heap[w.heap.size]?=some (.deferred (some [])):=by
   intro jump W4 hk;have hl4:=hk.same _ _ (by omega) hl3 rfl;have hd4:=hk.same _ _ (Nat.le_refl _) hd3 rfl;have he:=run_endRound (P:=P) jump hl4;simp only[hrc] at he;refine⟨_,he,by simp only[hrc],hl4,?_,?_⟩
   ·simp only[hrc];exact World.putObj_heap_same (Array.getElem?_eq_some_iff.1 hl4).1
   ·exact(World.putObj_heap_other (by omega)).trans hd4
  have stop:∀(c:Code) (W4:World),KeepsFrom w.heap.size W3 W4→Kp (w.heap.size+1) W3 W4→Ix c (pre++[x]) W4→∃v W5,(Instr.endRound (w.heap.size+1) (some c)).run P W4= .ok v W5∧
   ((Ending.returned v= .returned (.bool true)∧J (pre++[x]) W5∧Kp (w.heap.size+1) W1 W5)∨(Ending.returned v= .returned (.bool false)∧Jx (pre++[x]) W5∧Kp (w.heap.size+1) W1 W5)):=by
   intro c W4 hk hkp4 hx;obtain⟨W5,hr,e5,hl4,hl5,hd5⟩:=fin (some c) W4 hk;exact⟨_,W5,hr,.inr ⟨rfl,by rw[hJx];exact⟨c,by rw[e5];exact(hIx c).putObj _ hx (by omega) hl4 rfl,hl5,hd5⟩,hKt hkp (hKt hkp3 (hKt hkp4 (by rw[e5];exact hKb _ _ _ _ (by omega) hl4 rfl)))⟩⟩
  rintro e a4 W4 hp
  cases e with
  |normal=>
   obtain⟨hk,hkp4,hi4⟩:=hp;obtain⟨W5,hr,e5,hl4,hl5,hd5⟩:=fin none W4 hk;refine⟨_,W5,hr,.inl ⟨rfl,by rw[hJ];exact⟨by rw[e5];exact hI.putObj _ hi4 (by omega) hl4 rfl,hl5,hd5⟩,?_⟩⟩;exact hKt hkp (hKt hkp3 (hKt hkp4 (by rw[e5];exact hKb _ _ _ _ (by omega) hl4 rfl)))
  |ret=>exact stop _ W4 hp.1 hp.2.1 hp.2.2
  |exit id=>exact stop _ W4 hp.1 hp.2.1 hp.2.2
  |goto t=>exact stop _ W4 hp.1 hp.2.1 hp.2.2
  |panic ch=>exact hp.elim
  |outgrown=>exact hp.elim
 refine⟨w.heap.size+1,[{target:= .collected w.heap.size,args:= #[]}],V,{target:= .fn (.func gf) lb,args:= #[.func (.yield (w.heap.size+1)) #[] #[]]},V,gf,
  #[.func (.yield (w.heap.size+1)) #[] #[]]++lb,V,?_,?_,fun _ _=>trivial,?_,fun h=>by simp[Fence.wide] at h,?_⟩
 ·rw[hV,hrc];exact run_enterLoop_outer _ _ _ _ _
 ·simp only[resolve,hg]
  simp[go_sem]
 ·simp[invoke,go_sem,eg]
 ·refine(callsIn_any (hseq (w.heap.size+1) J Jx V (by omega) hbV hJo hJxo hround hJ0)).mono ?_
  rintro e W2 ⟨⟨v,rfl⟩,h|⟨pre,post,hL,h⟩⟩
  ·rw[hJ] at h
   obtain⟨hi,hl,hd⟩:=h;have he:=run_endLoop (P:=P) hl (by rw[hrc];simp);simp only[hrc] at he;exact⟨none,_,he,hdone _ _ (Nat.le_refl _) (hI.putObj _ hi (by omega) hl rfl) ((World.putObj_heap_other (by omega)).trans hd)⟩
  ·rw[hJx] at h
   obtain⟨c,hi,hl,hd⟩:=h;have he:=run_endLoop (P:=P) hl (by rw[hrc];simp);simp only[hrc] at he;exact⟨some c,_,he,hstop _ c pre post _ (Nat.le_refl _) hL ((hIx c).putObj _ hi (by omega) hl rfl) ((World.putObj_heap_other (by omega)).trans hd)⟩
end Go.Mk
namespace Go.Proofs.YtjelacjggijmfaaGreatDoor
open Go.RowKit
theorem hide {p:Prop} (h:p):Hid p:=h
theorem uh {p:Prop} (h:Hid p):p:=h
theorem ret_bool {a b:Bool} (h:a=b):Ending.returned (.bool a)= .returned (.bool b):=by rw[h]
theorem ret_int {k:IntKind} {a b:Int} (h:a=b):Ending.returned (.int k a)= .returned (.int k b):=by rw[h]
theorem ret_str {a b:ByteArray} (h:a=b):Ending.returned (.string a)= .returned (.string b):=by rw[h]
theorem size_mk (l:List UInt8):(⟨l.toArray⟩:ByteArray).size=l.length:=by show l.toArray.size=_;simp
theorem mk_eq {t:ByteArray} {l:List UInt8} (h:t.data.toList=l):t=⟨l.toArray⟩:=by
 subst h;cases t;simp
theorem mk_list (l:List UInt8):(⟨l.toArray⟩:ByteArray).data.toList=l:=by simp
theorem opAt_get (s:ByteArray) (p:Nat) (h:p<s.size):Pl.opAt s.data.toList p=(s[p]).toNat:=by
 unfold Pl.opAt;rw[List.getD_eq_getElem?_getD,List.getElem?_eq_getElem (by rw[←Lib.size_eq];exact h)];rfl
theorem two_get (s:ByteArray) (p:Nat) (h:p+1<s.size):Pl.two s.data.toList p=256*(s[p]).toNat+(s[p+1]).toNat:=by
 have h1:=opAt_get s p (by omega);have h2:=opAt_get s (p+1) h;unfold Pl.opAt at h1 h2;unfold Pl.two;rw[h1,h2]
end Go.Proofs.YtjelacjggijmfaaGreatDoor
