/-
  Alike of package makerkeep: rules and their plain form do the same in every world, or are refused for the same reason (what is too long aside). Proved of all arguments whose values and letters together come to at most 1048576: the row and its card.
-/
import Derived.Test.YtjelacjggijmfaaGreatDoorTAC3
namespace Go.Proofs.YtjelacjggijmfaaGreatDoor
open Go.ChangeShapes Go.WideShapes Go.ChangeAt Go.RowKit
set_option maxRecDepth 100000
set_option maxHeartbeats 40000000 in
theorem alike_closed:joinedFacts Tryz.pinned.checked.prog 5 Tryz.f5 (Rows.OpenSpec.upto Rows.alikeSpec).bare Rows.alikeUptoRow=true:=by
 unfold joinedFacts;simp only[Bool.and_eq_true]
 repeat' (refine And.intro ?_ ?_)
 all_goals(as_aux_lemma=>kernel_rfl)
theorem alike_said_upto:Rows.AlikeUptoSaid:=by
 refine OpenClaim.holds_of_cond 5 Tryz.f5 ?_ ?_ ?_ ?_ ?_ ?_ ?_ ⟨?_,?_,?_,?_,?_⟩ ?_ ?_ ?_ ?_ ?_ ?_ Tryz.func5 ?_ ?_ ?_ (fun os started H enc _ F=>by rw[OpenClaim.pre_eq_preRow];exact alike_lifted os started H enc F)
 case refine_1=>as_aux_lemma=>rfl
 case refine_2=>as_aux_lemma=>rfl
 case refine_3=>as_aux_lemma=>rfl
 case refine_4=>as_aux_lemma=>rfl
 case refine_5=>as_aux_lemma=>rfl
 case refine_6=>as_aux_lemma=>rfl
 case refine_7=>as_aux_lemma=>rfl
 case refine_8=>as_aux_lemma=>rfl
 case refine_9=>as_aux_lemma=>rfl
 case refine_10=>as_aux_lemma=>rfl
 case refine_11=>as_aux_lemma=>rfl
 case refine_12=>as_aux_lemma=>rfl
 case refine_13=>as_aux_lemma=>rfl
 case refine_14=>as_aux_lemma=>rfl
 case refine_15=>as_aux_lemma=>rfl
 case refine_16=>as_aux_lemma=>rfl
 case refine_17=>as_aux_lemma=>rfl
 case refine_18=>as_aux_lemma=>kernel_rfl
 case refine_19=>exact alike_closed
 case refine_20=>as_aux_lemma=>exact of_decide_eq_true (by kernel_rfl)
 case refine_21=>as_aux_lemma=>
  unfold Func.isWrapper
  first|(rw [if_pos (by decide+kernel)];kernel_rfl)|(rw [if_neg (by decide+kernel)];exact⟨rfl,rfl⟩)
theorem alike_plain (f:FuncId) (fn:Func) (hf:Tryz.pinned.checked.prog.funcNamed Rows.alikeUptoRow.func=some f) (hfn:Tryz.pinned.checked.prog.funcs[f]?=some fn):
 false=Tryz.pinned.checked.prog.looks []∧∀(j:Nat) t,fn.params[j]?=some t→Tryz.pinned.checked.prog.wantsStandIn t=false:=by
 obtain rfl:f=5:=Option.some.inj ((show Tryz.prog.funcNamed Rows.alikeUptoRow.func=some 5 by kernel_rfl).symm.trans hf)|>.symm
 obtain rfl:fn=Tryz.f5:=(Option.some.inj (Tryz.func5.symm.trans hfn)).symm;refine⟨by kernel_rfl,fun j t ht=> ?_⟩;rw[Tryz.params5] at ht;have hm:=Array.mem_of_getElem? ht;simp only[List.mem_toArray,List.mem_cons,List.not_mem_nil,or_false] at hm
 rcases hm with rfl|rfl|rfl|rfl|rfl
 ·exact(show Tryz.prog.wantsStandIn 9=false by kernel_rfl)
 ·exact(show Tryz.prog.wantsStandIn 9=false by kernel_rfl)
 ·exact(show Tryz.prog.wantsStandIn 27=false by kernel_rfl)
 ·exact(show Tryz.prog.wantsStandIn 51=false by kernel_rfl)
 ·exact(show Tryz.prog.wantsStandIn 3=false by kernel_rfl)
theorem alike_card_upto:Rows.AlikeUptoCardSaid:=
 Claim7.holds_tied_plain_at .later [] _ _ _ _ alike_said_upto (fun _ h=>by cases h) (by kernel_rfl) (fun _ h=>by cases h) alikeUpto_row_tie rfl ⟨rfl,rfl⟩ (by kernel_rfl) rfl alike_plain (by kernel_rfl)
end Go.Proofs.YtjelacjggijmfaaGreatDoor
