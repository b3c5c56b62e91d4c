/-
  The document's own answer: a command is given: what lies in memory.
-/
import Derived.Test.YtjelacjggijmfaaGreatDoorTMS
set_option maxHeartbeats 2000000
set_option maxRecDepth 20000
namespace Go.Proofs.YtjelacjggijmfaaGreatDoor
open Go.RowKit
theorem cells_new (w:World) (t:TypeId) (vs:List Value) (j:Nat) (u:Value) (h:vs[j]?=some u):(w.alloc (.cells vs.toArray t)).cell? ((⟨w.heap.size,0,none⟩:Addr).add j)=some u:=by
 obtain⟨hj,rfl⟩:=List.getElem?_eq_some_iff.1 h;have:=(Row.new w t vs).cell j hj;have e:(⟨w.heap.size,0,none⟩:Addr).add j=⟨w.heap.size,j,none⟩:=by unfold Addr.add;split<;>simp_all
 rw[e];exact this
theorem add_files (fs:List Pl.File) (k:Nat) (h:k<fs.length):(fs.take (k+1)).foldl Pl.addF []=Pl.addF ((fs.take k).foldl Pl.addF []) fs[k]:=by
 rw[List.take_succ_eq_append_getElem h,List.foldl_append];rfl
theorem add_len (fs:List Pl.File):∀(acc:List Pl.File),(fs.foldl Pl.addF acc).length≤acc.length+fs.length:=by
 induction fs with
 |nil=>intro acc;simp
 |cons f r ih=>
  intro acc;rw[List.foldl_cons];have:=ih (Pl.addF acc f);have h2:(Pl.addF acc f).length≤acc.length+1:=by unfold Pl.addF;split<;>simp
  simp only[List.length_cons];omega
theorem filesC_snoc (fs:List Pl.File) (f:Pl.File):filesC (fs++[f])=filesC fs++fileC f:=by unfold filesC;simp
end Go.Proofs.YtjelacjggijmfaaGreatDoor
namespace Go.Proofs.YtjelacjggijmfaaGreatDoor
open Go.RowKit Go.MapKept Go.ChangeMaps Go.Maps
def fileV (f:Pl.File):Value:= .agg #[.string ⟨f.path.toArray⟩,.string ⟨f.text.toArray⟩,.int .i64 f.time]
def fEnts (fs:List Pl.File):Ents:=fs.map (fun f=>(f.path,fileV f))
theorem mget_f (fs:List Pl.File) (p:Pl.Bs):mget (fEnts fs) p=(Pl.look fs p).map fileV:=by
 unfold mget fEnts Pl.look;rw[List.find?_map,show ((fun x:Pl.Bs×Value=>x.1==p)∘fun f:Pl.File=>(f.path,fileV f))=(fun f=>f.path==p) from rfl];cases fs.find? (fun f=>f.path==p) with
 |none=>rfl
 |some f=>rfl
theorem mput_f (fs:List Pl.File) (f:Pl.File):mput (fEnts fs) f.path (fileV f)=fEnts (Pl.putF fs f):=by
 induction fs with
 |nil=>rfl
 |cons g r ih=>
  unfold Pl.putF;show mput ((g.path,fileV g)::fEnts r) f.path (fileV f)=_;rw[mput]
  by_cases h:g.path==f.path
  ·rw[if_pos h,if_pos h];rfl
  ·rw[if_neg h,if_neg h,ih];rfl
theorem put_new {fs:List Pl.File} {f:Pl.File} (h:Pl.look fs f.path=none):Pl.putF fs f=fs++[f]:=by
 induction fs with
 |nil=>rfl
 |cons g r ih=>
  rw[Pl.look_none] at h;simp only[List.map_cons,List.mem_cons,not_or] at h;have hg:¬(g.path==f.path)=true:=by simpa using fun e=>h.1 e.symm
  rw[Pl.putF,if_neg hg,ih (Pl.look_none.2 h.2)];rfl
theorem add_old {fs:List Pl.File} {f g:Pl.File} (h:Pl.look fs f.path=some g):Pl.addF fs f=fs:=by unfold Pl.addF;rw[h];rfl
theorem add_new {fs:List Pl.File} {f:Pl.File} (h:Pl.look fs f.path=none):Pl.addF fs f=Pl.putF fs f:=by rw[put_new h];unfold Pl.addF;rw[h];rfl
theorem zeroFile (w:World):(zeroValue 65).run Tryz.prog w= .ok (.agg #[.string ⟨#[]⟩,.string ⟨#[]⟩,.int .i64 0]) w:=by kernel_rfl
theorem turned_below {w w' :World} {B b:Nat} (h:w.mapTurned w' b) (hB:B≤b):Below B w w' :=by
 have hg:=h.grown
 exact⟨hg.os,hg.tape,hg.output,hg.size,fun k hk=>by
  by_cases hs:k<w.heap.size
  ·exact hg.block k hs (fun e=>by cases e;omega)
  ·obtain⟨es,clock,es',clock',h1,rfl⟩:=h
   have:(setBlock w b (.map es' clock')).heap.size=w.heap.size:=by simp[setBlock]
   rw[Array.getElem?_eq_none (by omega),Array.getElem?_eq_none (by omega)]⟩
theorem firstFiles_any (fs:List Pl.File) (a:Option Addr) (cap b o:Nat) (w:World) (ha:0<fs.length→a=some ⟨b,o,none⟩) (hr:RdF w b o fs) (hbw:b<w.heap.size) (hl:fs.length≤8388608):
 Calls Tryz.prog 85 #[.slice a fs.length cap] w fun e w' =>e= .returned (.map (some w.heap.size))∧SMap w' w.heap.size (fEnts (fs.foldl Pl.addF []))∧Below w.heap.size w w' :=by
 have HR:=hide hr;have HAA:=hide ha;have HS0:=hide (SMap.made w);have HB0:=hide ((Below.refl _ w).alloc (Nat.le_refl _) (.map #[] 0));have hmm:= @run_makeMap Tryz.prog;clear hr ha
 go_enter Tryz.func85,Tryz.ntmps85
 go_wp2_with fail
 go_loopw [11] (fun i wr=>∃k:Nat,i= .int .i64 k∧k≤fs.length∧Hid (SMap wr w.heap.size (fEnts ((fs.take k).foldl Pl.addF [])))∧Hid (Below w.heap.size w wr)) (fun i _=>fs.length-intN i)
 case atStart=>exact⟨0,rfl,Nat.zero_le _,HS0,HB0⟩
 case round=>
  clear HS0 HB0;obtain⟨k,rfl,hkl,HS,HB⟩:=hrel
  by_cases hk:k<fs.length
  ·obtain rfl:=uh HAA (by omega)
   have hrd:=(uh HR).below (uh HB) hbw;obtain⟨p0,p1,p2⟩:=hrd k hk;have HAD:=hide (add_files fs k hk);have hacc:((fs.take k).foldl Pl.addF []).length≤8388608:=by have:=add_len (fs.take k) [];simp at this;omega
   have hlt:=(uh HS).lt;generalize hfk:fs[k]=fk at*;generalize (fs.take k).foldl Pl.addF []=acc at*;unfold strV at p0 p1;have t1:(k:Int)<(fs.length:Int):=by omega
   have HF1:Hid (∀o:Obj,SMap (wr.alloc o) w.heap.size (fEnts acc)):=fun o=>(uh HS).later ((Below.refl _ wr).alloc (Nat.le_refl _) o)
   have HF2:Hid (∀o q:Obj,SMap ((wr.alloc o).alloc q) w.heap.size (fEnts acc)):=fun o q=>(uh HF1 o).later ((Below.refl _ _).alloc (Nat.le_refl _) q)
   have HB2:Hid (∀o q:Obj,Below w.heap.size w ((wr.alloc o).alloc q)):=fun o q=>((uh HB).alloc (by omega) o).alloc (by rw[World.size_alloc];omega) q
   have hfl:(fEnts acc).length≤8388608:=by unfold fEnts;rw[List.length_map];exact hacc
   clear hrd hfk hmm;cases hlk:Pl.look acc fk.path with
   |some g=>
    have hmg:mget (fEnts acc) fk.path=some (fileV g):=by rw[mget_f,hlk];rfl
    have HNX:Hid ((fs.take (k+1)).foldl Pl.addF []=acc):=by show _=_;rw[uh HAD,add_old hlk]
    have HMG:=hide hmg;clear hlk HAD hmg
    as_aux_lemma=>
     go_wp2_with (first
      |(at_lookup;refine wpList_look_ok_yes _ rfl _ _ 177 rfl 9 65 Tryz.underlying177 Tryz.underlying9 _ (zeroFile _) w.heap.size (fEnts acc) rfl (uh HF1 _) fk.path rfl (fileV g) (uh HMG) ?_;unfold fileV)
      |fail)
     go_roundw
     case rel=>exact⟨k+1,by go_num,by omega,by rw[uh HNX];exact uh HF2 _ _,uh HB2 _ _⟩
     case measure=>simp only[intN];omega
   |none=>
    have hmg:mget (fEnts acc) fk.path=none:=by rw[mget_f,hlk];rfl
    have HNX:Hid (fEnts ((fs.take (k+1)).foldl Pl.addF [])=mput (fEnts acc) fk.path (fileV fk)):=by show _=_;rw[uh HAD,add_new hlk,mput_f]
    have HMG:=hide hmg;clear hlk HAD hmg
    as_aux_lemma=>
     go_wp2_with (first
      |(at_lookup;refine wpList_look_ok_no _ rfl _ _ 177 rfl 9 65 Tryz.underlying177 Tryz.underlying9 _ (zeroFile _) w.heap.size (fEnts acc) rfl (uh HF1 _) fk.path rfl (uh HMG) ?_)
      |(refine wpList_put_s _ rfl _ _ _ 177 rfl 9 65 Tryz.underlying177 Tryz.underlying9 w.heap.size (fEnts acc) rfl (uh HF2 _ _) (by unfold maxLen;omega) fk.path rfl (fileV fk) rfl ?_;intro w1 hs1 ht1;have HS1:=hide hs1;have HT1:=hide ((uh HB2 _ _).trans (turned_below ht1 (Nat.le_refl _)));clear hs1 ht1)
      |fail)
     go_roundw
     case rel=>exact⟨k+1,by go_num,by omega,by rw[uh HNX];exact uh HS1,HT1⟩
     case measure=>simp only[intN];omega
  ·have hke:fs.take k=fs:=List.take_of_length_le (by omega)
   rw[hke] at HS;clear hke hmm
   go_wp2_with fail
   go_ret
   exact⟨rfl,uh HS,uh HB⟩
theorem mget_put (l:Ents) (k:Pl.Bs) (v:Value) (q:Pl.Bs):mget (mput l k v) q=if k=q then some v else mget l q:=by
 induction l with
 |nil=>unfold mput mget;by_cases h:k=q<;>simp[h]
 |cons x r ih=>
  rw[mput]
  by_cases hx:x.1=k
  ·rw[if_pos (by simpa using hx)]
   unfold mget
   by_cases h:k=q
   ·simp[h]
   ·simp[h,hx]
  ·rw[if_neg (by simpa using hx)]
   unfold mget at ih⊢
   by_cases hq:x.1=q
   ·have:¬k=q:=fun e=>hx (hq.trans e.symm)
    simp[hq,this]
   ·rw[List.find?_cons_of_neg (by simpa using hq),ih,List.find?_cons_of_neg (by simpa using hq)]
theorem mput_len (l:Ents) (k:Pl.Bs) (v:Value):(mput l k v).length≤l.length+1:=by
 induction l with
 |nil=>simp[mput]
 |cons x r ih=>rw[mput];split<;>simp;omega
def Firsts (ef:List Pl.Eff) (l:Ents):Prop:=l.length≤ef.length∧∀c,mget l c=(ef.findIdx? (fun e=>e.cmd==c)).map (fun i=> .int .i64 (i:Nat))
theorem Firsts.nil:Firsts [] []:=⟨Nat.le_refl _,fun c=>by simp[mget]⟩
theorem Firsts.old {ef:List Pl.Eff} {l:Ents} (h:Firsts ef l) (e:Pl.Eff) {v:Value} (hm:mget l e.cmd=some v):Firsts (ef++[e]) l:=by
 refine⟨by simp;have:=h.1;omega,fun c=> ?_⟩;rw[h.2 c,List.findIdx?_append];cases hc:ef.findIdx? (fun e=>e.cmd==c) with
 |some i=>rfl
 |none=>
  have:¬e.cmd=c:=fun ec=>by
   subst ec;rw[h.2 e.cmd,hc] at hm;cases hm
  simp[this]
theorem Firsts.new {ef:List Pl.Eff} {l:Ents} (h:Firsts ef l) (e:Pl.Eff) (hm:mget l e.cmd=none):Firsts (ef++[e]) (mput l e.cmd (.int .i64 (ef.length:Nat))):=by
 refine⟨by have:=mput_len l e.cmd (.int .i64 (ef.length:Nat));have:=h.1;simp;omega,fun c=> ?_⟩;rw[mget_put,List.findIdx?_append]
 by_cases hc:e.cmd=c
 ·subst hc
  rw[h.2 e.cmd] at hm;cases hf:ef.findIdx? (fun x=>x.cmd==e.cmd) with
  |some i=>rw[hf] at hm;cases hm
  |none=>simp
 ·rw[if_neg hc,h.2 c]
  cases hf:ef.findIdx? (fun x=>x.cmd==c) with
  |some i=>rfl
  |none=>simp[hc]
theorem zeroInt (w:World):(zeroValue 3).run Tryz.prog w= .ok (.int .i64 0) w:=by kernel_rfl
theorem firstEffects_any (ef:List Pl.Eff) (a:Option Addr) (cap L b o:Nat) (w:World) (ha:0<ef.length→a=some ⟨b,o,none⟩) (hr:RdE w L b o ef) (hL:L≤w.heap.size) (hl:ef.length≤8388608):
 Calls Tryz.prog 86 #[.slice a ef.length cap] w fun e w' =>e= .returned (.map (some w.heap.size))∧(∃l,SMap w' w.heap.size l∧Firsts ef l)∧Below w.heap.size w w' :=by
 have HR:=hide hr;have HAA:=hide ha;have HS0:=hide (SMap.made w);have HB0:=hide ((Below.refl _ w).alloc (Nat.le_refl _) (.map #[] 0));have hmm:= @run_makeMap Tryz.prog;clear hr ha
 go_enter Tryz.func86,Tryz.ntmps86
 go_wp2_with fail
 go_loopw [11] (fun i wr=>∃(k:Nat) (l:Ents),i= .int .i64 k∧k≤ef.length∧Hid (SMap wr w.heap.size l)∧Hid (Firsts (ef.take k) l)∧Hid (Below w.heap.size w wr)) (fun i _=>ef.length-intN i)
 case atStart=>exact⟨0,[],rfl,Nat.zero_le _,HS0,Firsts.nil,HB0⟩
 case round=>
  clear HS0 HB0;obtain⟨k,l,rfl,hkl,HS,HF,HB⟩:=hrel
  by_cases hk:k<ef.length
  ·obtain rfl:=uh HAA (by omega)
   have hrd:=(uh HR).below ((uh HB).mono hL);obtain⟨p0,p2,aw,cw,bw,ow,p1,-⟩:=hrd.2 k hk;have htk:ef.take (k+1)=ef.take k++[ef[k]]:=List.take_succ_eq_append_getElem hk;have hkk:(ef.take k).length=k:=by rw[List.length_take];omega
   have hll:=(uh HF).1;rw[hkk] at hll;have hlt:=(uh HS).lt;generalize hfk:ef[k]=fk at*;unfold strV at p0;have t1:(k:Int)<(ef.length:Int):=by omega
   have HF1:Hid (∀o:Obj,SMap (wr.alloc o) w.heap.size l):=fun o=>(uh HS).later ((Below.refl _ wr).alloc (Nat.le_refl _) o)
   have HB2:Hid (∀o:Obj,Below w.heap.size w (wr.alloc o)):=fun o=>(uh HB).alloc (by omega) o
   have hll2:l.length<maxLen:=by unfold maxLen;omega
   cases hmg:mget l fk.cmd with
   |some v=>
    have HNX:=hide ((uh HF).old fk hmg);rw[←htk] at HNX
    obtain⟨i,hi⟩:∃i:Nat,v= .int .i64 i:=by
     have:=(uh HF).2 fk.cmd;rw[hmg] at this;cases hf:(ef.take k).findIdx? (fun e=>e.cmd==fk.cmd) with
     |none=>rw[hf] at this;cases this
     |some i=>rw[hf] at this;exact⟨i,by simpa using this⟩
    subst hi;have HMG:=hide hmg;clear hmg hmm hrd hfk htk hkk
    as_aux_lemma=>
     go_wp2_with (first
      |(at_lookup;refine wpList_look_ok_yes _ rfl _ _ 179 rfl 9 3 Tryz.underlying179 Tryz.underlying9 _ (zeroInt _) w.heap.size l rfl (uh HF1 _) fk.cmd rfl _ (uh HMG) ?_)
      |fail)
     go_roundw
     case rel=>exact⟨k+1,l,by go_num,by omega,uh HF1 _,HNX,uh HB2 _⟩
     case measure=>simp only[intN];omega
   |none=>
    have HNX:=hide ((uh HF).new fk hmg);rw[←htk,hkk] at HNX;have HMG:=hide hmg;clear hmg hmm hrd hfk htk hkk
    as_aux_lemma=>
     go_wp2_with (first
      |(at_lookup;refine wpList_look_ok_no _ rfl _ _ 179 rfl 9 3 Tryz.underlying179 Tryz.underlying9 _ (zeroInt _) w.heap.size l rfl (uh HF1 _) fk.cmd rfl (uh HMG) ?_)
      |(refine wpList_put_s _ rfl _ _ _ 179 rfl 9 3 Tryz.underlying179 Tryz.underlying9 w.heap.size l rfl (uh HF1 _) hll2 fk.cmd rfl (.int .i64 k) rfl ?_;intro w1 hs1 ht1;have HS1:=hide hs1;have HT1:=hide ((uh HB2 _).trans (turned_below ht1 (Nat.le_refl _)));clear hs1 ht1)
      |fail)
     go_roundw
     case rel=>exact⟨k+1,_,by go_num,by omega,HS1,HNX,HT1⟩
     case measure=>simp only[intN];omega
  ·have hke:ef.take k=ef:=List.take_of_length_le (by omega)
   rw[hke] at HF;clear hke hmm
   go_wp2_with fail
   go_ret
   exact⟨rfl,⟨l,uh HS,uh HF⟩,uh HB⟩
end Go.Proofs.YtjelacjggijmfaaGreatDoor
namespace Go.Proofs.YtjelacjggijmfaaGreatDoor
open Go.RowKit
theorem nodup_le:∀(l S:List Pl.Bs),l.Nodup→(∀p∈l,p∈S)→l.length≤S.length
 |[],_,_,_=>Nat.zero_le _
 |a::r,S,h,hs=>by
  obtain⟨h1,h2⟩:=List.nodup_cons.1 h;have ha:=hs a (by simp);have:=nodup_le r (S.erase a) h2 (fun p hp=>(List.mem_erase_of_ne (show p≠a from fun e=>h1 (by rw[←e];exact hp))).2 (hs p (by simp[hp])));rw[List.length_erase_of_mem ha] at this;have:0<S.length:=List.length_pos_of_mem ha;simp only[List.length_cons];omega
def Fit (S:List Pl.Bs) (fs:List Pl.File):Prop:=Pl.Uniq fs∧∀p∈fs.map (·.path),p∈S
theorem Fit.len {S:List Pl.Bs} {fs:List Pl.File} (h:Fit S fs):fs.length≤S.length:=by
 have:=nodup_le _ S h.1 h.2
 simpa using this
theorem Fit.put {S:List Pl.Bs} {fs:List Pl.File} {f:Pl.File} (h:Fit S fs) (hf:f.path∈S):Fit S (Pl.putF fs f):=by
 refine⟨Pl.uniq_put h.1,fun p hp=> ?_⟩;rw[Pl.put_paths] at hp;split at hp
 ·exact h.2 p hp
 ·simp only[List.mem_append,List.mem_singleton] at hp
  rcases hp with hp|rfl
  ·exact h.2 p hp
  ·exact hf
theorem Fit.add {S:List Pl.Bs} {fs:List Pl.File} {f:Pl.File} (h:Fit S fs) (hf:f.path∈S):Fit S (Pl.addF fs f):=by
 refine⟨Pl.uniq_add h.1,fun p hp=> ?_⟩;unfold Pl.addF at hp;split at hp
 ·exact h.2 p hp
 ·simp only[List.map_append,List.map_cons,List.map_nil,List.mem_append,List.mem_singleton] at hp
  rcases hp with hp|rfl
  ·exact h.2 p hp
  ·exact hf
theorem own_type {w:World} {B e size n:Nat} {v:Value} {xs:List Value} (h:w.ownsRow B e size v n xs):∀k,v.ownBlock=some k→∃cur fz,w.heap[k]?=some (.cells cur e fz):=by
 intro k hk
 rcases h.2 with⟨rfl,_⟩|⟨g,cap,cur,rfl,_,h3,_⟩
 ·cases hk
 ·cases hk;exact⟨cur,_,h3⟩
end Go.Proofs.YtjelacjggijmfaaGreatDoor
