/-
  The document's own answer: a command is given.
-/
import Derived.Test.YtjelacjggijmfaaGreatDoorTRF4
namespace Go.Proofs.YtjelacjggijmfaaGreatDoor
open Go.RowKit
theorem one_one (s:ByteArray):∀u∈[Value.string s],u.oneCell' =true:=by intro u hu;simp at hu;subst hu;rfl
theorem put_files (t:Int) (fs:List Pl.File) (ws:List Pl.File) (k:Nat) (h:k<ws.length):(ws.take (k+1)).foldl (fun acc f=>Pl.putF acc (Pl.stamp t f)) fs=Pl.putF ((ws.take k).foldl (fun acc f=>Pl.putF acc (Pl.stamp t f)) fs) (Pl.stamp t ws[k]):=by
 rw[List.take_succ_eq_append_getElem h,List.foldl_append];rfl
theorem Fit.puts {S:List Pl.Bs} (t:Int):∀(ws:List Pl.File) {fs:List Pl.File},Fit S fs→(∀f∈ws,f.path∈S)→Fit S (ws.foldl (fun acc f=>Pl.putF acc (Pl.stamp t f)) fs)
 |[],_,h,_=>h
 |f::r,fs,h,hs=>by
  rw[List.foldl_cons];exact Fit.puts t r (h.put (hs f (by simp))) (fun g hg=>hs g (by simp[hg]))
theorem give_none {ef:List Pl.Eff} {X:Pl.Wd} {c:Pl.Bs} (h:∀j (hj:j<ef.length),ef[j].cmd≠c):Pl.giveW ef X c=⟨X.files,wrap64 (X.clock+1),X.cmds++[c],X.exit⟩:=by
 have:ef.find? (fun e=>e.cmd==c)=none:=by
  rw[List.find?_eq_none];intro x hx;obtain⟨j,hj,rfl⟩:=List.getElem_of_mem hx
  simpa using h j hj
 unfold Pl.giveW;rw[this]
theorem give_some {ef:List Pl.Eff} {X:Pl.Wd} {c:Pl.Bs} {k:Nat} (hk:k<ef.length) (h:∀j (hj:j<ef.length),j<k→ef[j].cmd≠c) (he:ef[k].cmd=c):
 Pl.giveW ef X c=⟨ef[k].writes.foldl (fun fs f=>Pl.putF fs (Pl.stamp (wrap64 (X.clock+1)) f)) X.files,wrap64 (X.clock+1),X.cmds++[c],ef[k].exit⟩:=by
 have:ef.find? (fun e=>e.cmd==c)=some ef[k]:=by
  rw[List.find?_eq_some_iff_getElem];exact⟨by simpa using he,k,hk,rfl,fun j hj=>by simpa using h j (by omega) hj⟩
 unfold Pl.giveW;rw[this]
end Go.Proofs.YtjelacjggijmfaaGreatDoor
