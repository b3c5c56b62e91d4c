/-
  Quiet of package makerkeep: what is made is made, the same goal once more gives no command and changes nothing; the whole web then gives just what is stale still, and then no more. Proved of all arguments whose values and letters together come to at most 1048576: the row and its card.
-/
import Derived.Test.YtjelacjggijmfaaGreatDoorTQC2
namespace Go.Proofs.YtjelacjggijmfaaGreatDoor
open Go.ChangeShapes Go.WideShapes Go.ChangeAt Go.RowKit
set_option maxRecDepth 100000
theorem quiet_laid_met (os:Os):laidMet Tryz.prog Rows.quietUptoRow.laid (({World.holding Tryz.prog os ⟨#[],#[],[]⟩ with heap:=laidHeap (World.holding Tryz.prog os ⟨#[],#[],[]⟩).heap}:World).forCall (fun _ _=>0) ⟨#[],#[.agg #[.slice none 0 0,.slice none 0 0],.int .i64 0],[]⟩).memory:=
 laidMet_of_run' 8 (by kernel_rfl) (by kernel_rfl)
theorem quiet_reads (os:Os) {H:Type} (enc:TypeId×Value→H):∃places,DataW.whole enc Tryz.prog (({World.holding Tryz.prog os ⟨#[],#[],[]⟩ with heap:=laidHeap (World.holding Tryz.prog os ⟨#[],#[],[]⟩).heap}:World).forCall (fun _ _=>0) ⟨#[],#[.agg #[.slice none 0 0,.slice none 0 0],.int .i64 0],[]⟩).memory Tryz.f9.params.toList Rows.quietSpec.vars false #[Value.agg #[.slice none 0 0,.slice none 0 0],.int .i64 0].toList 8=some ([.agg [.nil,.nil],.lit (.int .i64 0)],[],places):=
 ⟨[],by kernel_rfl⟩
theorem quiet_lifted (os:Os) (started:os.Started) (H:Type) (enc:TypeId×Value→H) (F:Stop.Interp):
 ReturnsInHanded {} Tryz.checked os 9 .any ((Rows.OpenSpec.upto Rows.quietSpec).preRow enc Tryz.prog Tryz.f9 Rows.quietUptoRow.domain false Rows.quietUptoRow.laid) (((Rows.OpenSpec.upto Rows.quietSpec).at F).post enc Tryz.prog Tryz.f9 false true false false):=by
 obtain⟨places,hx⟩:=quiet_reads os enc
 refine returnsInHanded_of_row (C:=Tryz.checked) (s:=Rows.OpenSpec.upto Rows.quietSpec) own started (by kernel_rfl) Tryz.func9
  (witness_row_at (enc:=enc) (C:=Tryz.checked) false ({World.holding Tryz.prog os ⟨#[],#[],[]⟩ with heap:=laidHeap (World.holding Tryz.prog os ⟨#[],#[],[]⟩).heap}) #[.agg #[.slice none 0 0,.slice none 0 0],.int .i64 0] rfl (by kernel_rfl) (by kernel_rfl) (by kernel_rfl)
   (OpenSpec.preRow_of_cond 8 hx (by kernel_rfl) (fun k hk=>by cases hk;kernel_rfl) (by kernel_rfl) (quiet_laid_met os))) ?_
 intro W base args ds gs before hval hW _ hcond _ hL hsh _;exact quiet_contract H enc W base args ds gs before hval hW (hcond _ rfl) hsh
end Go.Proofs.YtjelacjggijmfaaGreatDoor
