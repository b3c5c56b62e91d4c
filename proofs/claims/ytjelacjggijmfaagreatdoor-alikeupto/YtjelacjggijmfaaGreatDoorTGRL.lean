/-
  The iterator over the lines of a text that count for something: what it gives, round by round.
-/
import Derived.Test.YtjelacjggijmfaaGreatDoorTPure
import Derived.Test.YtjelacjggijmfaaGreatDoorTPureU
import Derived.Test.YtjelacjggijmfaaGreatDoorTGC2
import Derived.Test.YtjelacjggijmfaaGreatDoorTSP7
import Derived.RangeFuncCalls
import Derived.Shelf.Abstract
import Derived.Shelf.RegionOpen
import Derived.OwnWalkIn
import Derived.TacticsInMore
import Derived.LoopNIn
import Derived.LoopIn
set_option maxHeartbeats 2000000
namespace Go.Mk
open Go Go.RowKit
variable {P:Program}
theorem range_law_at {α:Type} {g:Operand} {ps:Array Tmp} {assign body:Code} {Q:Exit→Act→World→Prop} {a:Act} {w:World}
 {gf:Nat} {lb:Array Value} (hg:a.eval g= .func (.func gf) #[] lb) (eg:∀args w,(callFunc gf args).run P w= .ok (.enter gf args) w)
 {encs:α→Array Value} {Kp:Nat→World→World→Prop} {L:List α} {w0:World} (hseq:Iter P gf lb encs Kp L w0)
 (hKt:∀{l:Nat} {A B C:World},Kp l A B→Kp l B C→Kp l A C) (hKb:∀(W:World) (l:Nat) (o o' :Obj),w.heap.size≤l→W.heap[l]?=some o→o.isCells=false→Kp l W (W.putObj l o'))
 (hb0:Below w0.heap.size w0 w) (hps:∀x,(encs x).size=ps.size)
 (I:List α→World→Prop) (Ix:Code→List α→World→Prop) (hI:OwnFrom w.heap.size I) (hIx:∀c,OwnFrom w.heap.size (Ix c)) (h0:I [] w)
 (Ax:α→Act→World→Prop) (hAx:∀x a',OwnFrom w.heap.size (fun (_:Unit) W=>Ax x a' W))
 (hassign:∀(pre:List α) (x:α) (post:List α) (W:World) (K:Act→World→Prop),L=pre++x::post→I pre W→
  (∀a' W',KeepsFrom w.heap.size W W' →Kp (w.heap.size+1) W W' →I pre W' →Ax x a' W' →K a' W')→
  assign.wpIn (Fence.wide.inRound (w.heap.size+1)) 9 P (Exit.then K (fun _ _ _=>False)) {tmps:=(ps.zip (encs x)).foldl (fun t (p,v)=>t.setIfInBounds p v) a.tmps,defers:=[]} W)
 (hbody:∀(pre:List α) (x:α) (post:List α) (a' :Act) (W:World),L=pre++x::post→I pre W→Ax x a' W→
  body.wpIn (Fence.wide.inRound (w.heap.size+1)) 9 P (roundPostX w.heap.size (Kp (w.heap.size+1)) I Ix (pre++[x]) W) a' W)
 (hdone:∀(D:Nat) (W:World),w.heap.size≤D→I L W→W.heap[D]?=some (.deferred (some []))→Q .normal {a with defers:={target:= .collected D,args:= #[]}::a.defers} W)
 (hstop:∀(D:Nat) (c:Code) (pre post:List α) (W:World),w.heap.size≤D→L=pre++post→Ix c pre W→W.heap[D]?=some (.deferred (some []))→
  c.wpIn Fence.wide 9 P Q {a with defers:={target:= .collected D,args:= #[]}::a.defers} W):
 (Code.rangeFunc g ps assign body).wpIn Fence.wide 9 P Q a w:=by
 refine wpIn_rangeFunc fun fn hfn=> ?_
 --the record of the loop,in a state,with a jump that is left to do
 obtain⟨rc,hrc⟩:∃rc:LoopState→Option Code→Loop,∀s p,rc s p={state:=s,pending:=p,fn:=fn,tmps:=a.tmps,params:=ps,assign:=assign,body:=body,defers:=w.heap.size}:=⟨_,fun _ _=>rfl⟩;obtain⟨V,hV⟩:∃V,V=(w.alloc (.deferred (some []))).alloc (.loop (rc .ready none)):=⟨_,rfl⟩;have hVs:V.heap.size=w.heap.size+2:=by rw[hV];simp
 have hVl:V.heap[w.heap.size+1]?=some (.loop (rc .ready none)):=by
  have:=World.alloc_heap_new (w.alloc (.deferred (some []))) (.loop (rc .ready none));rw[World.size_alloc] at this;rw[hV];exact this
 have hVd:V.heap[w.heap.size]?=some (.deferred (some [])):=by
  rw[hV];exact(Below.heap_alloc _ _ _ (by simp)).trans (World.alloc_heap_new w _)
 --what the iterator is asked to carry on:the caller's own,and the two blocks of the loop
 obtain⟨J,hJ⟩:∃J:List α→World→Prop,J=fun pre W=>I pre W∧W.heap[w.heap.size+1]?=some (.loop (rc .ready none))∧W.heap[w.heap.size]?=some (.deferred (some [])):=⟨_,rfl⟩
 obtain⟨Jx,hJx⟩:∃Jx:List α→World→Prop,Jx=fun pre W=>∃c,Ix c pre W∧W.heap[w.heap.size+1]?=some (.loop (rc .done (some c)))∧W.heap[w.heap.size]?=some (.deferred (some [])):=⟨_,rfl⟩
 have hJo:OwnFrom V.heap.size J:=by
  rw[hJ]
  rintro s X Y row ⟨hi,hl,hd⟩ hgr hr
  have hr' :∀r,row=some r→w.heap.size+2≤r:=fun r e=>by have:=(hr r e).1;omega
  exact⟨hI s X Y row hi hgr (fun r e=>⟨by have:=hr' r e;omega,(hr r e).2⟩),same_below hgr hr' (by omega) hl,same_below hgr hr' (by omega) hd⟩
 have hJxo:OwnFrom V.heap.size Jx:=by
  rw[hJx]
  rintro s X Y row ⟨c,hi,hl,hd⟩ hgr hr
  have hr' :∀r,row=some r→w.heap.size+2≤r:=fun r e=>by have:=(hr r e).1;omega
  exact⟨c,hIx c s X Y row hi hgr (fun r e=>⟨by have:=hr' r e;omega,(hr r e).2⟩),same_below hgr hr' (by omega) hl,same_below hgr hr' (by omega) hd⟩
 have hbV:Below w0.heap.size w0 V:=by
  rw[hV];exact(hb0.alloc hb0.size _).alloc (by have:=hb0.size;simp;omega) _
 have hJ0:J [] V:=by rw[hJ];exact⟨by rw[hV];exact hI.alloc _ (hI.alloc _ h0),hVl,hVd⟩
 --a round
 have hround:∀pre x post W1,L=pre++x::post→J pre W1→YieldAt Fence.wide 9 P (w.heap.size+1) (encs x) W1 fun e W' =>
  (e= .returned (.bool true)∧J (pre++[x]) W' ∧Kp (w.heap.size+1) W1 W')∨(e= .returned (.bool false)∧Jx (pre++[x]) W' ∧Kp (w.heap.size+1) W1 W'):=by
  intro pre x post W1 hL hj;rw[hJ] at hj;obtain⟨hi,hl,hd⟩:=hj;have hy:=run_yield (P:=P) (args:=encs x) hl (by rw[hrc];exact hps x);simp only[hrc] at hy;refine⟨fn,_,assign,body,hy,roundIn_of_wpIn hfn (hassign pre x post W1 _ hL hi ?_)⟩;intro a' W2 hkf hkp hi2 hax;have hl2:=hkf.same _ _ (by omega) hl rfl;have hd2:=hkf.same _ _ (Nat.le_refl _) hd rfl
  refine⟨_,run_beginRound hl2 (by rw[hrc]),?_⟩;obtain⟨W3,hW3⟩:∃W3,W3=W2.putObj (w.heap.size+1) (.loop {rc .ready none with state:= .busy}):=⟨_,rfl⟩;rw[←hW3];have hlt:=(Array.getElem?_eq_some_iff.1 hl2).1;have hl3:W3.heap[w.heap.size+1]?=some (.loop {rc .ready none with state:= .busy}):=by rw[hW3];exact World.putObj_heap_same hlt
  have hd3:W3.heap[w.heap.size]?=some (.deferred (some [])):=by rw[hW3];exact(World.putObj_heap_other (by omega)).trans hd2
  have hkp3:Kp (w.heap.size+1) W2 W3:=by rw[hW3];exact hKb _ _ _ _ (by omega) hl2 rfl
  have hi3:I pre W3:=by rw[hW3];exact hI.putObj _ hi2 (by omega) hl2 rfl
  have hax3:Ax x a' W3:=by rw[hW3];exact(hAx x a').putObj (s:=()) _ hax (by omega) hl2 rfl
  refine wpIn_mono (hbody pre x post a' W3 hL hi3 hax3) ?_
  --the round's end,by the way in which the body is left
  have fin:∀(jump:Option Code) (W4:World),KeepsFrom w.heap.size W3 W4→∃W5,(Instr.endRound (w.heap.size+1) jump).run P W4= .ok (.bool jump.isNone) W5∧
   W5=W4.putObj (w.heap.size+1) (.loop (rc (if jump.isNone then .ready else .done) jump))∧W4.heap[w.heap.size+1]?=some (.loop {rc .ready none with state:= .busy})∧
   W5.heap[w.heap.size+1]?=some (.loop (rc (if jump.isNone then .ready else .done) jump))∧W5.heap[w.heap.size]?=some (.deferred (some [])):=by
   intro jump W4 hk;have hl4:=hk.same _ _ (by omega) hl3 rfl;have hd4:=hk.same _ _ (Nat.le_refl _) hd3 rfl;have he:=run_endRound (P:=P) jump hl4;simp only[hrc] at he;refine⟨_,he,by simp only[hrc],hl4,?_,?_⟩
   ·simp only[hrc];exact World.putObj_heap_same (Array.getElem?_eq_some_iff.1 hl4).1
   ·exact(World.putObj_heap_other (by omega)).trans hd4
  have stop:∀(c:Code) (W4:World),KeepsFrom w.heap.size W3 W4→Kp (w.heap.size+1) W3 W4→Ix c (pre++[x]) W4→∃v W5,(Instr.endRound (w.heap.size+1) (some c)).run P W4= .ok v W5∧
   ((Ending.returned v= .returned (.bool true)∧J (pre++[x]) W5∧Kp (w.heap.size+1) W1 W5)∨(Ending.returned v= .returned (.bool false)∧Jx (pre++[x]) W5∧Kp (w.heap.size+1) W1 W5)):=by
   intro c W4 hk hkp4 hx;obtain⟨W5,hr,e5,hl4,hl5,hd5⟩:=fin (some c) W4 hk;exact⟨_,W5,hr,.inr ⟨rfl,by rw[hJx];exact⟨c,by rw[e5];exact(hIx c).putObj _ hx (by omega) hl4 rfl,hl5,hd5⟩,hKt hkp (hKt hkp3 (hKt hkp4 (by rw[e5];exact hKb _ _ _ _ (by omega) hl4 rfl)))⟩⟩
  rintro e a4 W4 hp
  cases e with
  |normal=>
   obtain⟨hk,hkp4,hi4⟩:=hp;obtain⟨W5,hr,e5,hl4,hl5,hd5⟩:=fin none W4 hk;refine⟨_,W5,hr,.inl ⟨rfl,by rw[hJ];exact⟨by rw[e5];exact hI.putObj _ hi4 (by omega) hl4 rfl,hl5,hd5⟩,?_⟩⟩;exact hKt hkp (hKt hkp3 (hKt hkp4 (by rw[e5];exact hKb _ _ _ _ (by omega) hl4 rfl)))
  |ret=>exact stop _ W4 hp.1 hp.2.1 hp.2.2
  |exit id=>exact stop _ W4 hp.1 hp.2.1 hp.2.2
  |goto t=>exact stop _ W4 hp.1 hp.2.1 hp.2.2
  |panic ch=>exact hp.elim
  |outgrown=>exact hp.elim
 refine⟨w.heap.size+1,[{target:= .collected w.heap.size,args:= #[]}],V,{target:= .fn (.func gf) lb,args:= #[.func (.yield (w.heap.size+1)) #[] #[]]},V,gf,
  #[.func (.yield (w.heap.size+1)) #[] #[]]++lb,V,?_,?_,fun _ _=>trivial,?_,fun h=>by simp[Fence.wide] at h,?_⟩
 ·rw[hV,hrc];exact run_enterLoop_outer _ _ _ _ _
 ·simp only[resolve,hg]
  simp[go_sem]
 ·simp[invoke,go_sem,eg]
 ·refine(callsIn_any (hseq (w.heap.size+1) J Jx V (by omega) hbV hJo hJxo hround hJ0)).mono ?_
  rintro e W2 ⟨⟨v,rfl⟩,h|⟨pre,post,hL,h⟩⟩
  ·rw[hJ] at h
   obtain⟨hi,hl,hd⟩:=h;have he:=run_endLoop (P:=P) hl (by rw[hrc];simp);simp only[hrc] at he;exact⟨none,_,he,hdone _ _ (Nat.le_refl _) (hI.putObj _ hi (by omega) hl rfl) ((World.putObj_heap_other (by omega)).trans hd)⟩
  ·rw[hJx] at h
   obtain⟨c,hi,hl,hd⟩:=h;have he:=run_endLoop (P:=P) hl (by rw[hrc];simp);simp only[hrc] at he;exact⟨some c,_,he,hstop _ c pre post _ (Nat.le_refl _) hL ((hIx c).putObj _ hi (by omega) hl rfl) ((World.putObj_heap_other (by omega)).trans hd)⟩
end Go.Mk
namespace Go.Proofs.YtjelacjggijmfaaGreatDoor
open Go.RowKit
def Bld (B b:Nat) (acc:List UInt8) (w:World):Prop:=Lib.IsBuilderF 158 5 B b (Lib.byteCells acc) w
theorem Bld.kept {B b:Nat} {acc:List UInt8} {w w' :World} (h:Bld B b acc w) (hk:∀(k:Nat) (c:Array Value) (t:TypeId) (f:Nat×Nat),w.heap[k]?=some (Obj.cells c t f)→w'.heap[k]?=some (Obj.cells c t f)):Bld B b acc w' :=by
 have aux:∀p,Lib.BuilderAtF 158 5 B b p (Lib.byteCells acc) w→Lib.BuilderAtF 158 5 B b p (Lib.byteCells acc) w' :=by
  rintro p ⟨hB,v,hb,⟨hl,hr⟩,hne⟩
  refine⟨hB,v,hk _ _ _ _ hb,⟨hl,?_⟩,hne⟩
  rcases hr with hr|⟨g,cap,cur,fz,hv,hBg,hg,rest⟩
  ·exact .inl hr
  ·exact .inr ⟨g,cap,cur,fz,hv,hBg,hk _ _ _ _ hg,rest⟩
 rcases h with h|h
 ·exact .inl (aux _ h)
 ·exact .inr (aux _ h)
theorem Bld.later {B b:Nat} {acc:List UInt8} {w w' :World} (h:Bld B b acc w) (hb:Below w.heap.size w w'):Bld B b acc w' :=
 Bld.kept h (fun k _ _ _ hk=>(hb.block k (Array.getElem?_eq_some_iff.1 hk).1).trans hk)
theorem Bld.fresh (w:World):Bld w.heap.size w.heap.size [] (w.alloc (.cells #[.pointer none,.slice none 0 0] 158)):=Lib.IsBuilderF.of (Lib.fresh_isBuilder _ _ w)
theorem bldString (B b:Nat) (acc:List UInt8) (s:ByteArray) (w:World) (h:Bld B b acc w) (hl:acc.length+s.size≤140737488355328) (hB:B≤w.heap.size):
 Calls Tryz.prog 75 #[.pointer (some ⟨b,0,none⟩),.string s] w fun e w' =>e= .returned (.tuple #[.int .i64 s.size,.nilIface])∧Bld B b (acc++s.data.toList) w' ∧Below B w w' ∧Lib.OthersKept 5 (some b) w w' :=by
 refine(Any.Builder_WriteString_k Tryz.lay166 Tryz.layX B b _ s w h (by rw[Lib.byteCells_length];exact hl) hB).mono ?_
 rintro e w' ⟨rfl,h1,h2,h3⟩
 exact⟨rfl,by unfold Bld;rw[Lib.byteCells_append];exact .inr h1,h2,h3⟩
theorem bldByte (B b:Nat) (acc:List UInt8) (c:UInt8) (n:Int) (hn:n=c.toNat) (w:World) (h:Bld B b acc w) (hl:acc.length+1≤140737488355328) (hB:B≤w.heap.size):
 Calls Tryz.prog 78 #[.pointer (some ⟨b,0,none⟩),.int .u8 n] w fun e w' =>e= .returned .nilIface∧Bld B b (acc++[c]) w' ∧Below B w w' ∧Lib.OthersKept 5 (some b) w w' :=by
 subst hn;refine(Any.Builder_WriteByte_k Tryz.lay167 Tryz.layX B b _ c.toNat w h (by rw[Lib.byteCells_length];exact hl) hB).mono ?_
 rintro e w' ⟨rfl,h1,h2,h3⟩
 exact⟨rfl,by unfold Bld;rw[Lib.byteCells_append];exact .inr h1,h2,h3⟩
theorem bldGive (B b:Nat) (acc:List UInt8) (w:World) (h:Bld B b acc w) (hB:B≤w.heap.size):
 Calls Tryz.prog 79 #[.pointer (some ⟨b,0,none⟩)] w fun e w' =>e= .returned (.string ⟨acc.toArray⟩)∧Bld B b acc w' ∧Below B w w' ∧Lib.OthersKept 5 (some b) w w' :=by
 refine(Any.Builder_String_any_k Tryz.lay169 Tryz.layX B b acc w h hB).mono ?_
 rintro e w' ⟨rfl,h1,h2,h3⟩
 exact⟨rfl,h1,h2,h3⟩
theorem endsBack_len {l:List UInt8} (h:Mk.endsBack l=true):l.dropLast.length+1=l.length:=by
 cases l with
 |nil=>simp[Mk.endsBack] at h
 |cons a r=>simp
def takeRes (whole:List UInt8) (used:Nat) (rest:List UInt8) (more:Bool):Value:= .tuple #[.string ⟨whole.toArray⟩,.int .i64 used,.string ⟨rest.toArray⟩,.bool more]
theorem noBack_le (l:List UInt8):(Mk.noBack l).length≤l.length:=Mk.rdrop_le _ l
def moreN:Value→Nat
 | .bool b=>if b then 1 else 0
 |_=>0
structure TakeInv (t:List UInt8) (acc p rest:List UInt8) (more:Bool) (used:Nat):Prop where
 eq:Mk.take1 [] 1 (Mk.before 10 t) (Mk.rs (Mk.after 10 t) (Mk.has 10 t))=Mk.take1 acc used p (Mk.rs rest more)
 len:acc.length+p.length+rest.length+(if more then 1 else 0)≤t.length
 used:used+rest.length+(if more then 1 else 0)≤1+t.length
theorem TakeInv.start (t:List UInt8):TakeInv t [] (Mk.before 10 t) (Mk.after 10 t) (Mk.has 10 t) 1:=
 ⟨rfl,by have:=Mk.before_after 10 t;simp only[List.length_nil];omega,by have:=Mk.before_after 10 t;omega⟩
theorem TakeInv.on {t acc p rest:List UInt8} {used:Nat} (h:TakeInv t acc p rest true used) (hb:Mk.endsBack p=true):
 TakeInv t (acc++p.dropLast++[32]) (Mk.cutL (Mk.before 10 rest)) (Mk.after 10 rest) (Mk.has 10 rest) (used+1):=by
 have h1:=h.len;have h2:=h.used;have h3:=Mk.before_after 10 rest;have h4:=Mk.cutL_le (Mk.before 10 rest);have h5:=endsBack_len hb;refine⟨h.eq.trans (Mk.take1_on acc used p rest hb),?_,?_⟩
 ·simp only[List.length_append,List.length_cons,List.length_nil,if_true] at*;omega
 ·simp only[if_true] at*;omega
theorem takeLine_any (t:List UInt8) (w:World) (hT:t.length≤1073741824) (hg:Glob w):
 Calls Tryz.prog 157 #[.string ⟨t.toArray⟩] w fun e w' =>∃whole used rest more,e= .returned (takeRes whole used rest more)∧
  Mk.take1 [] 1 (Mk.before 10 t) (Mk.rs (Mk.after 10 t) (Mk.has 10 t))=(whole,used,Mk.rs rest more)∧
  whole.length+rest.length+(if more then 1 else 0)≤t.length∧used+rest.length+(if more then 1 else 0)≤1+t.length∧Below w.heap.size w w' :=by
 have hsl:(⟨t.toArray⟩:ByteArray).size=t.length:=size_mk t;have HI:=hide (TakeInv.start t)
 go_enter Tryz.func157,Tryz.ntmps157
 go_wp2_with fail
 refine(lCut 10 ⟨t.toArray⟩ _ (by omega) hg).mono ?_
 rintro e w1 ⟨rfl,hb1⟩
 have hg1:=hg.later hb1;simp only
 go_wp2_with fail
 go_loopw [6,7,8,9] (fun p r m u wr=>∃(acc pl rl:List UInt8) (ml:Bool) (ul:Nat),p= .string ⟨pl.toArray⟩∧r= .string ⟨rl.toArray⟩∧m= .bool ml∧u= .int .i64 ul∧
  Hid (TakeInv t acc pl rl ml ul)∧Bld w1.heap.size w1.heap.size acc wr∧Below w1.heap.size w1 wr∧Glob wr) (fun _ r m _ _=>strLen r+moreN m)
 case atStart=>
  exact⟨[],_,_,_,1,rfl,rfl,rfl,rfl,HI,Bld.fresh w1,(Below.refl _ w1).alloc (Nat.le_refl _) _,hg1.later ((Below.refl _ w1).alloc (Nat.le_refl _) _)⟩
 case round=>
  obtain⟨acc,pl,rl,ml,ul,rfl,rfl,rfl,rfl,hI,hB,hbw,hgw⟩:=hrel;have hbz:=hbw.size;have hlen:=(uh hI).len;have HU:=hide (uh hI).used;have hplA:(⟨pl.toArray⟩:ByteArray).size=pl.length:=size_mk pl;have hrlA:(⟨rl.toArray⟩:ByteArray).size=rl.length:=size_mk rl;cases ml with
  |false=>
   simp only[Bool.false_eq_true,if_false] at hlen
   go_wp2_with fail
   refine(lTrimRight ⟨pl.toArray⟩ _ (by omega)).mono ?_
   rintro e w2 ⟨rfl,hb2⟩
   simp only;have hB2:=hB.later hb2;have hbw2:=hbw.trans (hb2.mono hbz);have hnb:=noBack_le pl;have hnbA:(⟨(Mk.noBack pl).toArray⟩:ByteArray).size=(Mk.noBack pl).length:=size_mk _;have HE:=hide ((uh hI).eq.trans (Mk.take1_last acc ul pl rl));clear hb2 hB hbw hI;generalize Mk.noBack pl=q at*
   go_wp2_with fail
   refine(bldString _ _ acc ⟨q.toArray⟩ w2 hB2 (by omega) hbw2.size).mono ?_
   rintro e w3 ⟨rfl,hB3,hb3,-⟩
   simp only at hB3;have hbw3:=hbw2.trans hb3
   go_wp2_with fail
   refine(bldGive _ _ _ w3 hB3 hbw3.size).mono ?_
   rintro e w4 ⟨rfl,-,hb4,-⟩
   have hbw4:=hbw3.trans hb4
   go_wp2_with fail
   refine bodyPost_ret (v:=takeRes (acc++q) ul rl false) (by simp[results,Tryz.results157,go_sem,takeRes]) rfl ⟨acc++q,ul,rl,false,rfl,uh HE,?_,?_,?_⟩
   ·simp only[List.length_append,Bool.false_eq_true,if_false];omega
   ·exact uh HU
   ·exact hb1.trans (hbw4.mono hb1.size)
  |true=>
   simp only[if_true] at hlen;cases he:Mk.endsBack pl with
   |false=>
    have HE:=hide ((uh hI).eq.trans (Mk.take1_end acc ul pl rl he))
    go_wp2_with fail
    refine(lHasSuffix ⟨pl.toArray⟩ _ (by omega)).mono ?_
    rintro e w2 ⟨rfl,rfl⟩
    simp only;rw[he];clear hI
    go_wp2_with fail
    refine(bldString _ _ acc ⟨pl.toArray⟩ wr hB (by omega) hbz).mono ?_
    rintro e w3 ⟨rfl,hB3,hb3,-⟩
    simp only at hB3;have hbw3:=hbw.trans hb3
    go_wp2_with fail
    refine(bldGive _ _ _ w3 hB3 hbw3.size).mono ?_
    rintro e w4 ⟨rfl,-,hb4,-⟩
    have hbw4:=hbw3.trans hb4
    go_wp2_with fail
    refine bodyPost_ret (v:=takeRes (acc++pl) ul rl true) (by simp[results,Tryz.results157,go_sem,takeRes]) rfl ⟨acc++pl,ul,rl,true,rfl,uh HE,?_,?_,?_⟩
    ·simp only[List.length_append,if_true];omega
    ·exact uh HU
    ·exact hb1.trans (hbw4.mono hb1.size)
   |true=>
    have HI2:=hide ((uh hI).on he);have hdl:=endsBack_len he;have hdA:(⟨pl.dropLast.toArray⟩:ByteArray).size=pl.dropLast.length:=size_mk _;have hused:ul+rl.length+1≤1+t.length:=uh HU;have hba:=Mk.before_after 10 rl
    go_wp2_with fail
    refine(lHasSuffix ⟨pl.toArray⟩ _ (by omega)).mono ?_
    rintro e w2 ⟨rfl,rfl⟩
    simp only;rw[he]
    go_wp2_with fail
    refine(lTrimSuffix ⟨pl.toArray⟩ _ (by omega) he).mono ?_
    rintro e w2 ⟨rfl,rfl⟩
    simp only;clear hI;generalize pl.dropLast=q at*
    go_wp2_with fail
    refine(bldString _ _ acc ⟨q.toArray⟩ wr hB (by omega) hbz).mono ?_
    rintro e w3 ⟨rfl,hB3,hb3,-⟩
    simp only at hB3;have hbw3:=hbw.trans hb3
    have hg3:Glob w3:=by
     obtain⟨m,hm⟩:=hg1;exact⟨m,(hbw3.cell (p:=⟨0,0,none⟩) (World.block_lt_of_cell? w1 _ hm)).trans hm⟩
    clear hb3
    go_wp2_with fail
    refine(bldByte _ _ (acc++q) 32 32 rfl w3 hB3 (by simp only[List.length_append];omega) hbw3.size).mono ?_
    rintro e w4 ⟨rfl,hB4,hb4,-⟩
    have hbw4:=hbw3.trans hb4
    have hg4:Glob w4:=by
     obtain⟨m,hm⟩:=hg1;exact⟨m,(hbw4.cell (p:=⟨0,0,none⟩) (World.block_lt_of_cell? w1 _ hm)).trans hm⟩
    clear hb4 hB3 hg3
    go_wp2_with fail
    refine(lCut 10 ⟨rl.toArray⟩ _ (by omega) hg4).mono ?_
    rintro e w5 ⟨rfl,hb5⟩
    simp only;have hB5:=hB4.later hb5;have hbw5:=hbw4.trans (hb5.mono hbw4.size);have hg5:=hg4.later hb5;clear hb5 hB4 hg4 hbw4 hbw3 hbw
    go_wp2_with fail
    refine(cutFront_any _ _).mono ?_
    rintro e w6 ⟨rfl,hb6⟩
    simp only;have hB6:=hB5.later hb6;have hbw6:=hbw5.trans (hb6.mono hbw5.size);have hg6:=hg5.later hb6;clear hb6 hB5 hg5 hbw5;generalize Mk.cutL (Mk.before 10 rl)=p' at*;have hafA:(⟨(Mk.after 10 rl).toArray⟩:ByteArray).size=(Mk.after 10 rl).length:=size_mk _;generalize Mk.after 10 rl=r' at*;generalize Mk.has 10 rl=m' at*
    go_wp2_with fail
    refine⟨⟨acc++q++[32],p',r',m',ul+1,rfl,rfl,rfl,by go_num,HI2,hB6,hbw6,hg6⟩,?_⟩;simp only[strLen,moreN,if_true];rw[hafA,hrlA];omega
end Go.Proofs.YtjelacjggijmfaaGreatDoor
namespace Go.Proofs.YtjelacjggijmfaaGreatDoor
open Go.RowKit Go.Shelf
attribute [local go_sem] Oper.semAt_some
def encJ (x:Nat×List UInt8):Array Value:= #[.int .i64 x.1,.string ⟨x.2.toArray⟩]
def KpG (W W' :World):Prop:=Glob W→Glob W'
theorem take1_rest:∀(ps:List (List UInt8)) (acc:List UInt8) (used:Nat) (p:List UInt8),(Mk.take1 acc used p ps).2.2.length≤ps.length
 |[],_,_,_=>Nat.le_refl _
 |q::qs,acc,used,p=>by
  unfold Mk.take1;split
  ·exact Nat.le_trans (take1_rest qs _ _ _) (by simp)
  ·exact Nat.le_refl _
structure JoinInv (t:List UInt8) (pre:List (Nat×List UInt8)) (f n:Nat) (rl:List UInt8) (m:Bool):Prop where
 eq:Mk.joined t=pre++Mk.joinF f n (Mk.rs rl m)
 fuel:(Mk.rs rl m).length≤f
 num:n+rl.length+(if m then 1 else 0)≤t.length+2
 len:rl.length≤t.length
theorem JoinInv.start (t:List UInt8):JoinInv t [] (Mk.segs t).length 1 t true:=
 ⟨rfl,Nat.le_refl _,by simp only[if_true];omega,Nat.le_refl _⟩
theorem JoinInv.round {t:List UInt8} {pre:List (Nat×List UInt8)} {f n:Nat} {rl:List UInt8} (h:JoinInv t pre f n rl true) {whole rest:List UInt8} {used:Nat} {more:Bool}
 (he:Mk.take1 [] 1 (Mk.before 10 rl) (Mk.rs (Mk.after 10 rl) (Mk.has 10 rl))=(whole,used,Mk.rs rest more))
 (hl:whole.length+rest.length+(if more then 1 else 0)≤rl.length) (hu:used+rest.length+(if more then 1 else 0)≤1+rl.length):
 ∃g post,Mk.joined t=pre++(n,whole)::post∧JoinInv t (pre++[(n,whole)]) g (n+used) rest more:=by
 obtain⟨h1,h2,h3,h4⟩:=h;simp only[if_true] at h3;have hs:Mk.rs rl true=Mk.before 10 rl::Mk.rs (Mk.after 10 rl) (Mk.has 10 rl):=Mk.segs_eq rl;rw[hs] at h1 h2;rw[List.length_cons] at h2;obtain⟨g,rfl⟩:∃g,f=g+1:=⟨f-1,by omega⟩;rw[Mk.joinF,he] at h1;have hr:=take1_rest (Mk.rs (Mk.after 10 rl) (Mk.has 10 rl)) [] 1 (Mk.before 10 rl);rw[he] at hr;simp only at h1 hr
 exact⟨g,_,h1,by rw[h1];simp,by omega,by omega,by omega⟩
theorem JoinInv.done {t:List UInt8} {pre:List (Nat×List UInt8)} {f n:Nat} {rl:List UInt8} (h:JoinInv t pre f n rl false):Mk.joined t=pre:=by
 have:=h.eq;rw[this];cases f<;>simp[Mk.rs,Mk.joinF]
theorem joined_iter (t:List UInt8) (Bt:Nat) (w:World) (hT:t.length≤1073741824) (hg:Glob w) (hBt:w.cell? ⟨Bt,0,none⟩=some (.string ⟨t.toArray⟩)):
 Mk.Iter Tryz.prog 156 #[.pointer (some ⟨Bt,0,none⟩)] encJ (fun _=>KpG) (Mk.joined t) w:=by
 intro l J Jx W _ hW hJ hJx hY h0;have hBt2:W.cell? ⟨Bt,0,none⟩=some (.string ⟨t.toArray⟩):=(hW.cell (p:=⟨Bt,0,none⟩) (World.block_lt_of_cell? w _ hBt)).trans hBt;have hgW:=hg.later hW;refine callsIn_of_wp Tryz.func156 rfl trivial ?_
 simp only[Tryz.ntmps156,List.size_toArray,List.length_cons,List.length_nil,Nat.reduceAdd,Nat.reduceSub,Array.replicate_succ,Array.replicate_zero,List.push_toArray,List.append_toArray,List.nil_append,List.cons_append]
 gi_wp2
 gi_region
 gi_wp2
 gi_loopw [3,4,5] (fun num rest more wr=>∃(pre:List (Nat×List UInt8)) (f n:Nat) (rl:List UInt8) (m:Bool),num= .int .i64 n∧rest= .string ⟨rl.toArray⟩∧more= .bool m∧
  Hid (JoinInv t pre f n rl m)∧Hid (J pre wr)∧Glob wr) (fun _ rest more _=>strLen rest+moreN more)
 case atStart=>
  exact⟨[],_,1,t,true,rfl,rfl,rfl,JoinInv.start t,OwnDrew hJ h0,hgW.later (Below.refl _ _).drew⟩
 case round=>
  obtain⟨pre,f,n,rl,m,rfl,rfl,rfl,hI,hJs,hgr⟩:=hrel;cases m with
  |false=>
   have HD:=hide (uh hI).done
   gi_wp2
   go_end0
   exact⟨⟨_,rfl⟩,.inl (by rw[uh HD];exact uh hJs)⟩
  |true=>
   have hrl:=(uh hI).len;have hnum:=(uh hI).num;simp only[if_true] at hnum
   gi_wp2_with fail
   refine⟨trivial,(callsIn_wide.2 (takeLine_any rl _ (by omega) hgr)).mono ?_⟩
   rintro e w2 ⟨whole,used,rest,more,rfl,he,hl,hu,hb⟩
   obtain⟨g,post,hLeq,hI2⟩:=(uh hI).round he hl hu;have hJ2:=OwnBelow hJ (uh hJs) hb;obtain⟨fn,tmps,assign,body,hy,hR⟩:=hY pre (n,whole) post w2 hLeq hJ2;have HI2:=hide hI2;have HR:=hide hR;have hg2:=hgr.later hb;have HX:Hid (∀W',Jx (pre++[(n,whole)]) W' →∃pre post,Mk.joined t=pre++post∧Jx pre W'):=fun W' hx=>⟨_,post,by rw[hLeq];simp,hx⟩
   have HL:=hide hl;clear hI2 hR hLeq he hb hJ2 hJs hI hl;unfold takeRes;unfold encJ at hy;simp only at hy
   gi_wp2_with fail
   refine(Mk.roundIn_any (uh HR)).mono ?_
   rintro e W3 (⟨rfl,hJ3,hk3⟩|⟨rfl,hJx3,-⟩)
   ·have HJ3:=hide hJ3
    have hg3:=hk3 hg2;have hun:used≤1+rl.length:=by omega
    clear hJ3 hk3 hu HR hy
    gi_wp2_with fail
    go_roundw
    case rel=>exact⟨pre++[(n,whole)],g,n+used,rest,more,by go_num,rfl,rfl,HI2,HJ3,hg3⟩
    case measure=>
     have h1:(⟨rest.toArray⟩:ByteArray).size=rest.length:=size_mk _;have h2:(⟨rl.toArray⟩:ByteArray).size=rl.length:=size_mk _;have h3:=uh HL;simp only[strLen,moreN,if_true,h1,h2];omega
   ·gi_wp2_with fail
    refine bodyPost_ret (results_none rfl _ _ _) rfl ?_;exact⟨⟨_,rfl⟩,.inr (uh HX _ hJx3)⟩
end Go.Proofs.YtjelacjggijmfaaGreatDoor
namespace Go.Proofs.YtjelacjggijmfaaGreatDoor
open Go.RowKit Go.Shelf
attribute [local go_sem] Oper.semAt_some
theorem joined_any (s:ByteArray) (w:World):
 Calls Tryz.prog 120 #[.string s] w fun e w' =>e= .returned (.func (.func 156) #[] #[.pointer (some ⟨w.heap.size,0,none⟩)])∧w.alloc (.cells #[.string s] 9)=w' :=by
 go_enter Tryz.func120,Tryz.ntmps120
 go_wp2
 go_ret
 exact⟨rfl,rfl⟩
theorem all_any (s:ByteArray) (w:World):
 Calls Tryz.prog 74 #[.string s] w fun e w' =>e= .returned (.func (.func 119) #[] #[.pointer (some ⟨w.heap.size,0,none⟩)])∧w.alloc (.cells #[.string s] 9)=w' :=by
 go_enter Tryz.func74,Tryz.ntmps74
 go_wp2
 go_ret
 exact⟨rfl,rfl⟩
def encA (x:Mk.Ln×Nat):Array Value:= #[lnV x.1,.int .i64 x.2]
structure KpA (l:Nat) (W W' :World):Prop where
 glob:Glob W→Glob W'
 boxes:∀(k:Nat) (c:Array Value) (f:Nat×Nat),W.heap[k]?=some (Obj.cells c 234 f)→W'.heap[k]?=some (Obj.cells c 234 f)
 others:∀(k:Nat) (o:Obj),l<k→W.heap[k]?=some o→o.isCells=false→W'.heap[k]?=some o
 size:W.heap.size≤W'.heap.size
theorem glob_putObj {W:World} {l:Nat} {o o' :Obj} (h:Glob W) (hl:W.heap[l]?=some o) (ho:o.isCells=false):Glob (W.putObj l o'):=by
 obtain⟨m,hm⟩:=h;exact⟨m,cell_kept hm (grownBy_putObj' W l o') (fun r e=>by cases e;exact⟨o,hl,ho⟩)⟩
theorem glob_own (B:Nat) {β:Type}:OwnFrom B (fun (_:β) W=>Glob W):=fun _ X Y row hs hg hr=>by
 obtain⟨m,hm⟩:=hs;exact⟨m,cell_kept hm hg (fun r e=>(hr r e).2)⟩
theorem rest_drop {α:Type} {L pre post:List α} {x:α} (h:L=pre++x::post):L.drop pre.length=x::post∧L.drop (pre++[x]).length=post:=by
 subst h;refine⟨List.drop_left,?_⟩;rw[show pre++x::post=(pre++[x])++post from by simp];exact List.drop_left
theorem box_own (B k:Nat) (c:Array Value) (t:TypeId) {β:Type}:OwnFrom B (fun (_:β) W=>W.heap[k]?=some (Obj.cells c t (0,0))):=fun _ X Y row hs hg hr=>by
 refine(hg.block k (Array.getElem?_eq_some_iff.1 hs).1 (fun e=> ?_)).trans hs;obtain⟨_,o,ho,hc⟩:=hr k e.symm;rw[hs] at ho;cases ho;cases hc
theorem all_iter (t:List UInt8) (Bt:Nat) (w:World) (hT:t.length≤1073741824) (hg:Glob w) (hBt:w.cell? ⟨Bt,0,none⟩=some (.string ⟨t.toArray⟩)):
 Mk.Iter Tryz.prog 119 #[.pointer (some ⟨Bt,0,none⟩)] encA KpA (Mk.allF (Mk.joined t)) w:=by
 intro l J Jx W hlW hW hJ hJx hY h0;have hBt2:W.cell? ⟨Bt,0,none⟩=some (.string ⟨t.toArray⟩):=(hW.cell (p:=⟨Bt,0,none⟩) (World.block_lt_of_cell? w _ hBt)).trans hBt;have hgW:=hg.later hW;have hlt:=World.block_lt_of_cell? W _ hBt2;refine callsIn_of_wp_marks Tryz.func119 rfl trivial ?_
 simp only[Tryz.ntmps119,List.size_toArray,List.length_cons,List.length_nil,Nat.reduceAdd,Nat.reduceSub,Array.replicate_succ,Array.replicate_zero,List.push_toArray,List.append_toArray,List.nil_append,List.cons_append];have hBt3:∀o,(W.alloc o).cell? ⟨Bt,0,none⟩=some (.string ⟨t.toArray⟩):=fun o=>(((Below.refl _ W).alloc (Nat.le_refl _) o).cell (p:=⟨Bt,0,none⟩) hlt).trans hBt2
 gi_wp2_with fail
 refine⟨trivial,(callsIn_wide.2 (joined_any _ _)).mono ?_⟩
 rintro e w2 ⟨rfl,rfl⟩
 gi_wp2_with fail
 clear hBt3;obtain⟨V,hV⟩:∃V,V=((W.alloc (.cells #[.func (.yield l) #[] #[]] 234)).alloc (.cells #[.string ⟨t.toArray⟩] 9)):=⟨_,rfl⟩;rw[←hV];have hVs:V.heap.size=W.heap.size+2:=by rw[hV];simp
 have hbV:Below W.heap.size W V:=by rw[hV];exact((Below.refl _ W).alloc (Nat.le_refl _) _).alloc (by simp) _
 have hgV:=hgW.later hbV
 have hbox:V.heap[W.heap.size]?=some (Obj.cells #[.func (.yield l) #[] #[]] 234 (0,0)):=by
  rw[hV];exact(Below.heap_alloc _ _ _ (by simp)).trans (World.alloc_heap_new W _)
 have htx:V.cell? ⟨W.heap.size+1,0,none⟩=some (.string ⟨t.toArray⟩):=by
  have:=World.alloc_heap_new (W.alloc (.cells #[.func (.yield l) #[] #[]] 234)) (.cells #[.string ⟨t.toArray⟩] 9);rw[World.size_alloc,←hV] at this;simp[World.cell?,this]
 have hJV:=OwnBelow hJ h0 hbV;clear hV;have hJo:=Mk.ownFrom_le hJ (show W.heap.size≤V.heap.size by omega);have hJxo:=Mk.ownFrom_le hJx (show W.heap.size≤V.heap.size by omega)
 refine Mk.range_law (gf:=156) (lb:= #[.pointer (some ⟨W.heap.size+1,0,none⟩)]) rfl (enters_of Tryz.func156 (by kernel_rfl) rfl)
  (joined_iter t (W.heap.size+1) V hT hgV htx) (fun h k g=>k (h g)) (fun W1 l1 o o' _ hl ho hg1=>glob_putObj hg1 hl ho) (Below.refl _ _) (fun _=>rfl)
  (fun pre W1=>∃ys,Mk.allF (Mk.joined t)=ys++Mk.allF ((Mk.joined t).drop pre.length)∧J ys W1∧W1.heap[W.heap.size]?=some (Obj.cells #[.func (.yield l) #[] #[]] 234 (0,0))∧Glob W1)
  (fun c _ W1=>c= .ret∧(J (Mk.allF (Mk.joined t)) W1∨∃pre' post',Mk.allF (Mk.joined t)=pre' ++post' ∧Jx pre' W1))
  (fun s X Y row hs hgr hr=>by
   obtain⟨ys,h1,h2,h3,h4⟩:=hs
   exact⟨ys,h1,hJo _ X Y row h2 hgr hr,box_own V.heap.size _ _ _ () X Y row h3 hgr hr,glob_own V.heap.size () X Y row h4 hgr hr⟩)
  (fun c s X Y row hs hgr hr=>by
   obtain⟨h1,h2|⟨p1,p2,h2,h3⟩⟩:=hs
   ·exact⟨h1,.inl (hJo _ X Y row h2 hgr hr)⟩
   ·exact⟨h1,.inr ⟨p1,p2,h2,hJxo _ X Y row h3 hgr hr⟩⟩)
  ⟨[],rfl,hJV,hbox,hgV⟩
  (fun x a' _=>a' ={tmps:= #[.func (.yield l) #[] #[],.pointer (some ⟨Bt,0,none⟩),.pointer (some ⟨W.heap.size,0,none⟩),.int .i64 x.1,.string ⟨x.2.toArray⟩,undef,undef,.string ⟨t.toArray⟩,
   .func (.func 156) #[] #[.pointer (some ⟨W.heap.size+1,0,none⟩)],.int .i64 x.1,.string ⟨x.2.toArray⟩,undef,undef,undef,undef,undef,undef,undef,undef,undef,undef,undef,undef,undef,undef,undef,undef,undef,undef,undef,undef,undef,undef,undef],defers:=[]})
  (fun _ _ _ _ _ _ hs _ _=>hs) ?assign ?body ?done ?stop
 case assign=>
  rintro l1 pre ⟨n,whole⟩ post W1 K _ hi hK
  unfold encJ
  gi_wp2
  exact hK _ _ (KeepsFrom.refl _ _) (fun h=>h) hi rfl
 case body=>
  rintro l1 pre ⟨n,whole⟩ post a' W1 hL ⟨ys,hys,hJ1,hbx,hg1⟩ rfl
  have hwl:whole.length≤1073741824:=Nat.le_trans (Mk.joined_len (x:=(n,whole)) (by rw[hL];simp)) hT;obtain⟨hd1,hd2⟩:=rest_drop hL;rw[hd1] at hys;have hwA:(⟨whole.toArray⟩:ByteArray).size=whole.length:=size_mk _;have HN:=hide hd2;clear hd1 hd2 hL
  gi_wp2_with fail
  refine⟨trivial,(CallsIn.inRound l1 (callsIn_wide.2 (parse_any ⟨whole.toArray⟩ W1 (by omega) hg1))).mono ?_⟩
  rintro e W2 ⟨rfl,hb2⟩
  simp only
  have hys2:Mk.allF (Mk.joined t)=ys++(if (Mk.parse whole).2==0&&(Mk.parse whole).1.kind==0 then Mk.allF post
   else({(Mk.parse whole).1 with number:=n},(Mk.parse whole).2)::(if (Mk.parse whole).2==0 then Mk.allF post else [])):=hys
  clear hys;generalize Mk.parse whole=r at*;obtain⟨⟨nm,k,L,R⟩,er⟩:=r;simp only at hys2;unfold lineRes lnV;simp only;have hbs:=hb2.size;obtain⟨W3,hW3⟩:∃W3,W3=W2.alloc (.cells #[.int .i64 n,.int .i64 k,.string ⟨L.toArray⟩,.string ⟨R.toArray⟩] 164):=⟨_,rfl⟩;have hb3:Below W1.heap.size W1 W3:=by rw[hW3];exact hb2.alloc hbs _
  have hk3:KeepsFrom V.heap.size W1 W3:=keepsBelow _ hb3;have hg3:=hg1.later hb3;have hJ3:=OwnBelow hJ hJ1 hb3;have hbx3:W3.heap[W.heap.size]?=_:=(hb3.block _ (Array.getElem?_eq_some_iff.1 hbx).1).trans hbx;have hbx2:W2.heap[W.heap.size]?=_:=(hb2.block _ (Array.getElem?_eq_some_iff.1 hbx).1).trans hbx
  have hlt2:W.heap.size<W2.heap.size:=(Array.getElem?_eq_some_iff.1 hbx2).1
  have hcell:∀o,(W2.alloc o).cell? ⟨W.heap.size,0,none⟩=some (.func (.yield l) #[] #[]):=fun o=>by
   have h5:(W2.alloc o).heap[W.heap.size]?=_:=(Below.heap_alloc W2 o _ hlt2).trans hbx2;simp[World.cell?,h5]
  by_cases her:er=0
  ·by_cases hk0:k=0
   ·subst her hk0
    have HI2:Hid (∃ys,Mk.allF (Mk.joined t)=ys++Mk.allF ((Mk.joined t).drop (pre++[(n,whole)]).length)∧J ys (W2.alloc (.cells #[.int .i64 nm,.int .i64 0,.string ⟨L.toArray⟩,.string ⟨R.toArray⟩] 164))∧
     (W2.alloc (.cells #[.int .i64 nm,.int .i64 0,.string ⟨L.toArray⟩,.string ⟨R.toArray⟩] 164)).heap[W.heap.size]?=some (Obj.cells #[.func (.yield l) #[] #[]] 234 (0,0))∧Glob (W2.alloc (.cells #[.int .i64 nm,.int .i64 0,.string ⟨L.toArray⟩,.string ⟨R.toArray⟩] 164))):=by
     refine⟨ys,?_,OwnBelow hJ hJ1 (hb2.alloc hbs _),(Below.heap_alloc W2 _ _ hlt2).trans hbx2,hg1.later (hb2.alloc hbs _)⟩;rw[uh HN,hys2];rfl
    clear hys2 hJ3 hg3 hW3 hJ1
    gi_wp2_with fail
    exact⟨keepsBelow _ (hb2.alloc hbs _),fun h=>h.later (hb2.alloc hbs _),uh HI2⟩
   ·have b1:((er:Int)==0)=true:=by rw[beq_iff_eq];omega
    have b1' :((er:Int) !=0)=false:=by rw[bne_eq_false_iff_eq];omega
    have b2:((k:Int)==0)=false:=by rw[beq_eq_false_iff_ne];omega
    have hys3:Mk.allF (Mk.joined t)=ys++(⟨n,k,L,R⟩,er)::Mk.allF post:=by
     have c1:(er==0)=true:=by rw[beq_iff_eq];exact her
     have c2:(k==0)=false:=by rw[beq_eq_false_iff_ne];exact hk0
     rw[hys2,c1,c2];rfl
    subst hW3;obtain⟨fn,tmps,assign,body,hy,hR⟩:=hY ys (⟨n,k,L,R⟩,er) _ _ hys3 hJ3;have HR:=hide hR;have HY3:=hide hys3;have HG3:=hide hg3;have HB3:=hide hbx3;have HK3:=hide hk3;have HBW:=hide hb3;unfold encA lnV at hy;simp only at hy;clear hys2 hJ3 hJ1 hR hys3 her hg3 hbx3 hk3 hb3 hk0
    gi_wp2_with fail
    refine(Mk.roundIn_in (uh HR)).mono ?_
    rintro e W4 (⟨rfl,hJ4,hk4⟩|⟨rfl,hJ4,hk4⟩)
    ·have HJ4:=hide hJ4
     have HK4:=hide hk4;clear hJ4 hk4 hy HR
     gi_wp2_with fail
     exact⟨(uh HK3).trans ⟨(uh HK4).size,fun k1 o h1 ho hc=>(uh HK4).others k1 o (by omega) ho hc⟩,fun _=>(uh HK4).glob (uh HG3),ys++[(⟨n,k,L,R⟩,er)],by rw[uh HN,uh HY3];simp,uh HJ4,(uh HK4).boxes _ _ _ (uh HB3),(uh HK4).glob (uh HG3)⟩
    ·have HJ4:=hide hJ4
     have HK4:=hide hk4;clear hJ4 hk4 hy HR
     gi_wp2_with fail
     exact⟨(uh HK3).trans ⟨(uh HK4).size,fun k1 o h1 ho hc=>(uh HK4).others k1 o (by omega) ho hc⟩,fun _=>(uh HK4).glob (uh HG3),rfl,.inr ⟨ys++[(⟨n,k,L,R⟩,er)],_,by rw[uh HY3];simp;rfl,uh HJ4⟩⟩
  ·have b1:((er:Int)==0)=false:=by rw[beq_eq_false_iff_ne];omega
   have b1' :((er:Int) !=0)=true:=by rw[bne_iff_ne];omega
   have hys3:Mk.allF (Mk.joined t)=ys++(⟨n,k,L,R⟩,er)::[]:=by
    have c1:(er==0)=false:=by rw[beq_eq_false_iff_ne];exact her
    rw[hys2,c1];rfl
   subst hW3;obtain⟨fn,tmps,assign,body,hy,hR⟩:=hY ys (⟨n,k,L,R⟩,er) _ _ hys3 hJ3;have HR:=hide hR;have HY3:=hide hys3;have HG3:=hide hg3;have HB3:=hide hbx3;have HK3:=hide hk3;have HBW:=hide hb3;unfold encA lnV at hy;simp only at hy;clear hys2 hJ3 hJ1 hR hys3 her hg3 hbx3 hk3 hb3
   gi_wp2_with fail
   refine(Mk.roundIn_in (uh HR)).mono ?_
   rintro e W4 (⟨rfl,hJ4,hk4⟩|⟨rfl,hJ4,hk4⟩)
   ·have HJ4:=hide hJ4
    have HK4:=hide hk4;clear hJ4 hk4 hy HR
    gi_wp2_with fail
    exact⟨(uh HK3).trans ⟨(uh HK4).size,fun k1 o h1 ho hc=>(uh HK4).others k1 o (by omega) ho hc⟩,fun _=>(uh HK4).glob (uh HG3),rfl,.inl (by rw[uh HY3];exact uh HJ4)⟩
   ·have HJ4:=hide hJ4
    have HK4:=hide hk4;clear hJ4 hk4 hy HR
    gi_wp2_with fail
    exact⟨(uh HK3).trans ⟨(uh HK4).size,fun k1 o h1 ho hc=>(uh HK4).others k1 o (by omega) ho hc⟩,fun _=>(uh HK4).glob (uh HG3),rfl,.inr ⟨ys++[(⟨n,k,L,R⟩,er)],_,by rw[uh HY3];simp;rfl,uh HJ4⟩⟩
 case done=>
  rintro D W1 hD ⟨ys,hys,hJ1,hbx,hg1⟩ hK
  have HY:Hid (J (Mk.allF (Mk.joined t)) (W1.putObj D (.deferred none))):=by
   have h9:Mk.allF (Mk.joined t)=ys:=by rw[hys];simp[Mk.allF]
   show J _ _;rw[h9];exact hJ.putObj _ hJ1 (by omega) hK rfl
  clear hys hJ1 hbx hg1
  gi_wp2
  refine⟨by simp,.inl ⟨_,_,rfl,run_takeDeferred hK,?_⟩⟩;exact⟨_,results_none rfl _ _ _,⟨_,rfl⟩,.inl (uh HY)⟩
 case stop=>
  rintro D c pre post W1 hD hL ⟨rfl,hx⟩ hK
  have HY:Hid (J (Mk.allF (Mk.joined t)) (W1.putObj D (.deferred none))∨∃pre' post',Mk.allF (Mk.joined t)=pre' ++post' ∧Jx pre' (W1.putObj D (.deferred none))):=by
   rcases hx with hx|⟨p1,p2,h1,h2⟩
   ·exact .inl (hJ.putObj _ hx (by omega) hK rfl)
   ·exact .inr ⟨p1,p2,h1,hJx.putObj _ h2 (by omega) hK rfl⟩
  clear hx hL
  gi_wp2
  refine⟨by simp,.inl ⟨_,_,rfl,run_takeDeferred hK,?_⟩⟩;exact⟨_,results_none rfl _ _ _,⟨_,rfl⟩,uh HY⟩
end Go.Proofs.YtjelacjggijmfaaGreatDoor
