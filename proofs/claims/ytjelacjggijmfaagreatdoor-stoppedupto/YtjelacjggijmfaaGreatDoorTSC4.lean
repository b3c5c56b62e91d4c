/-
  Stopped of package makerkeep: with the first exit that is not 0 all is over, what would have been given is cut off behind it. Proved of all arguments whose values and letters together come to at most 1048576: the row and its card.
-/
import Derived.Test.YtjelacjggijmfaaGreatDoorTSC3
namespace Go.Proofs.YtjelacjggijmfaaGreatDoor
open Go.ChangeShapes Go.WideShapes Go.ChangeAt Go.RowKit
set_option maxRecDepth 100000
set_option maxHeartbeats 40000000 in
theorem stopped_closed:joinedFacts Tryz.pinned.checked.prog 10 Tryz.f10 (Rows.OpenSpec.upto Rows.stoppedSpec).bare Rows.stoppedUptoRow=true:=by
 unfold joinedFacts;simp only[Bool.and_eq_true]
 repeat' (refine And.intro ?_ ?_)
 all_goals(as_aux_lemma=>kernel_rfl)
theorem stopped_said_upto:Rows.StoppedUptoSaid:=by
 refine OpenClaim.holds_of_cond 10 Tryz.f10 ?_ ?_ ?_ ?_ ?_ ?_ ?_ ⟨?_,?_,?_,?_,?_⟩ ?_ ?_ ?_ ?_ ?_ ?_ Tryz.func10 ?_ ?_ ?_ (fun os started H enc _ F=>by rw[OpenClaim.pre_eq_preRow];exact stopped_lifted os started H enc F)
 case refine_1=>as_aux_lemma=>rfl
 case refine_2=>as_aux_lemma=>rfl
 case refine_3=>as_aux_lemma=>rfl
 case refine_4=>as_aux_lemma=>rfl
 case refine_5=>as_aux_lemma=>rfl
 case refine_6=>as_aux_lemma=>rfl
 case refine_7=>as_aux_lemma=>rfl
 case refine_8=>as_aux_lemma=>rfl
 case refine_9=>as_aux_lemma=>rfl
 case refine_10=>as_aux_lemma=>rfl
 case refine_11=>as_aux_lemma=>rfl
 case refine_12=>as_aux_lemma=>rfl
 case refine_13=>as_aux_lemma=>rfl
 case refine_14=>as_aux_lemma=>rfl
 case refine_15=>as_aux_lemma=>rfl
 case refine_16=>as_aux_lemma=>rfl
 case refine_17=>as_aux_lemma=>rfl
 case refine_18=>as_aux_lemma=>kernel_rfl
 case refine_19=>exact stopped_closed
 case refine_20=>as_aux_lemma=>exact of_decide_eq_true (by kernel_rfl)
 case refine_21=>as_aux_lemma=>
  unfold Func.isWrapper
  first|(rw [if_pos (by decide+kernel)];kernel_rfl)|(rw [if_neg (by decide+kernel)];exact⟨rfl,rfl⟩)
theorem stopped_plain (f:FuncId) (fn:Func) (hf:Tryz.pinned.checked.prog.funcNamed Rows.stoppedUptoRow.func=some f) (hfn:Tryz.pinned.checked.prog.funcs[f]?=some fn):
 false=Tryz.pinned.checked.prog.looks []∧∀(j:Nat) t,fn.params[j]?=some t→Tryz.pinned.checked.prog.wantsStandIn t=false:=by
 obtain rfl:f=10:=Option.some.inj ((show Tryz.prog.funcNamed Rows.stoppedUptoRow.func=some 10 by kernel_rfl).symm.trans hf)|>.symm
 obtain rfl:fn=Tryz.f10:=(Option.some.inj (Tryz.func10.symm.trans hfn)).symm;refine⟨by kernel_rfl,fun j t ht=> ?_⟩;rw[Tryz.params10] at ht;have hm:=Array.mem_of_getElem? ht;simp only[List.mem_toArray,List.mem_cons,List.not_mem_nil,or_false] at hm
 rcases hm with rfl|rfl|rfl|rfl
 ·exact(show Tryz.prog.wantsStandIn 76=false by kernel_rfl)
 ·exact(show Tryz.prog.wantsStandIn 3=false by kernel_rfl)
 ·exact(show Tryz.prog.wantsStandIn 3=false by kernel_rfl)
 ·exact(show Tryz.prog.wantsStandIn 3=false by kernel_rfl)
theorem stopped_card_upto:Rows.StoppedUptoCardSaid:=
 Claim7.holds_tied_plain_at .later [] _ _ _ _ stopped_said_upto (fun _ h=>by cases h) (by kernel_rfl) (fun _ h=>by cases h) stoppedUpto_row_tie rfl ⟨rfl,rfl⟩ (by kernel_rfl) rfl stopped_plain (by kernel_rfl)
end Go.Proofs.YtjelacjggijmfaaGreatDoor
