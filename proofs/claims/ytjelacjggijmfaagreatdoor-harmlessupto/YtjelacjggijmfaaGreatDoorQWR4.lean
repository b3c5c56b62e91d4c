/-
  A plan is written: what pushes whether a node is stale: the walk.
  A plan is written: what pushes whether a node is stale.
  A plan is written: an instruction, with its operands.
-/
import Derived.Test.YtjelacjggijmfaaGreatDoorQWR1
import Derived.Deep.RegionLaw
namespace Go.Proofs.YtjelacjggijmfaaGreatDoor
open Go.RowKit Go.MapKept Go.ChangeMaps Go.Maps

def wdAt (op i : Nat) : Nat := if i = 0 then wd1 op else wd2 op
def addAt (p : Cp.Wr) (op : Nat) (os : List Nat) : Nat → Cp.Wr
  | 0 => p.op op
  | i + 1 => (addAt p op os i).put (os.getD i 0) (wdAt op i)
theorem wdAt_le (op i : Nat) : wdAt op i ≤ 2 := by
  unfold wdAt wd1 wd2
  repeat' split
  all_goals omega
theorem beB_len (n k : Nat) (h : k ≤ 2) : (Cp.beB n k).length = k := by
  match k, h with
  | 0, _ => rfl
  | 1, _ => rfl
  | 2, _ => rfl
theorem addAt_len (p : Cp.Wr) (op : Nat) (os : List Nat) : ∀ i, (addAt p op os i).code.length ≤ p.code.length + 1 + 2 * i
  | 0 => by show (p.code ++ [UInt8.ofNat op]).length ≤ _; simp
  | i + 1 => by
    have := addAt_len p op os i
    show ((addAt p op os i).code ++ Cp.beB _ _).length ≤ _
    rw [List.length_append, beB_len _ _ (wdAt_le op i)]
    have := wdAt_le op i
    omega
theorem byte_one (bs : Pl.Bs) : ∀ u ∈ Lib.byteCells bs, u.oneCell' = true := fun u hu => by
  unfold Lib.byteCells at hu
  obtain ⟨x, _, rfl⟩ := List.mem_map.1 hu
  rfl
theorem one_u8 (n : Int) : ∀ u ∈ [Value.int .u8 n], u.oneCell' = true := fun u hu => by
  simp only [List.mem_singleton] at hu
  subst hu
  rfl
theorem row_types {W : World} {b : Nat} {t u : TypeId} {vs : List Value} {B s n : Nat} {v : Value} {xs : List Value} (h : Row W b t vs) (g : W.ownsRow B u s v n xs) (ht : t ≠ u) : some b ≠ v.ownBlock := fun e => by
  obtain ⟨c1, f1, q1⟩ := own_type g b e.symm
  unfold Row at h
  rw [h] at q1
  cases q1
  exact ht rfl
/-- A row of another kind stays. -/
theorem Row.wrt {W Z : World} {B wb nb b : Nat} {p : Cp.Wr} {vs vc vs' vc' : Value} {t : TypeId} {us : List Value} (h : Row W b t us) (hm : WrM W B wb nb p vs vc) (ht : WrT wb nb vs vc vs' vc' W Z) (h1 : t ≠ 281) (h2 : t ≠ 9) (h3 : t ≠ 5) : Row Z b t us :=
  h.tn ht.tn (fun e => by
    rcases e with e | e | e | e
    · subst e
      have := hm.row
      unfold Row at h this
      rw [h] at this
      cases this
      exact h1 rfl
    · exact row_ne_map' h hm.nums e
    · exact row_types h hm.strs h2 e
    · exact row_types h hm.code h3 e)
theorem WrM.later {W Z : World} {B wb nb : Nat} {p : Cp.Wr} {vs vc : Value} (h : WrM W B wb nb p vs vc) (hb : Below W.heap.size W Z) : WrM Z B wb nb p vs vc :=
  ⟨h.row.later hb, h.nums.later hb, own_same h.strs (fun k hk => hb.block k (h.strs.lt k hk).2), own_same h.code (fun k hk => hb.block k (h.code.lt k hk).2), h.wB, h.nB⟩
theorem WrT.later {W Z : World} {wb nb : Nat} {vs vc : Value} (hb : Below W.heap.size W Z) : WrT wb nb vs vc vs vc W Z := ⟨Tn.later hb, fun _ e => .inl e, fun _ e => .inl e⟩
/-- While the operands are written. -/
structure AddM (W : World) (B wb nb : Nat) (p : Cp.Wr) (vs vc : Value) (op : Nat) (os : List Nat) (N i : Nat) (wr : World) : Prop where
  wm : ∃ vc', WrM wr B wb nb (addAt p op os i) vs vc' ∧ WrT wb nb vs vc vs vc' W wr
  row : Row wr N 3 [.int .i64 (wd1 op), .int .i64 (wd2 op)]
set_option maxHeartbeats 4000000 in
set_option maxRecDepth 100000 in
theorem wrAdd_any (B wb nb : Nat) (p : Cp.Wr) (vs vc : Value) (op : Nat) (os : List Nat) (a : Option Addr) (cap ob : Nat) (W : World) (h : WrM W B wb nb p vs vc) (hB : B ≤ W.heap.size) (hop : op < 256) (hos : ∀ x ∈ os, x < 2147483648) (hol : os.length ≤ 2) (ha : 0 < os.length → a = some ⟨ob, 0, none⟩ ∧ Row W ob 3 (os.map fun x : Nat => Value.int .i64 (x : Int))) (hcl : p.code.length ≤ 1073741824) :
    Calls Tryz.prog 100 #[.pointer (some ⟨wb, 0, none⟩), .int .u8 op, .slice a os.length cap] W fun e W' => e = .returned (.tuple #[]) ∧ ∃ vc', WrM W' B wb nb (addAt p op os 2) vs vc' ∧ WrT wb nb vs vc vs vc' W W' := by
  obtain ⟨i0, hi0, hz0, hz1, hz2⟩ := info_parts Tryz.infoU8
  obtain ⟨sa, sc, hvc⟩ := own_sh h.code
  subst hvc
  have c2 := h.row.cell? (i := 2) rfl
  have hwB := h.wB
  have hob : (((UInt8.ofNat op).toNat : Nat) : Int) = op := by rw [UInt8.toNat_ofNat']; omega
  have CW := hide (widths_any op hop W)
  have HM := hide h
  have HA := hide ha
  have HOS := hide hos
  clear h ha hos
  go_enter Tryz.func100, Tryz.ntmps100
  go_wp2_with (first
    | (go_at_call 149; refine (unhide CW).mono ?_; rintro e w1 ⟨rfl, rfl⟩)
    | (at_builtin; refine wpList_append_own_at _ rfl (.tmp 22) (.tmp 24) 126 rfl B 5 i0 (.int .u8 0) 1 1 Tryz.underlying126 hi0 hz0 hz1 hz2 rfl (by decide) _ p.code.length _ rfl (World.ownsRow.alloc (unhide HM).code _) ⟨_, 0, none⟩ 1 1 [.int .u8 (op : Int)] rfl rfl (cells_new _ _ [_]) (one_u8 _) (by unfold maxLen; omega) (by omega) (by rw [World.size_alloc]; omega) ?_; intro v1 w2 hown1 hgrow1 hnil1 hat1; obtain ⟨q1, q2, rfl, -, -⟩ := owns_form hown1 (by omega); have hr2 := (unhide HM).row.grown ((World.grownBy_alloc W _ _).trans hgrow1) (own_ne (unhide HM).code hwB); have e1' := hr2.cell? (i := 2) rfl; have e2' := hr2.frozen 2; have HE := hide ((unhide HM).addCode (bs := [UInt8.ofNat op]) (Tn.refl _ _) (unhide HM).row ((World.grownBy_alloc W _ _).trans hgrow1) (by unfold Lib.byteCells; simp only [List.map_cons, List.map_nil, List.length_singleton]; rw [hob]; exact hown1) (fun k hk => by rcases hat1 with e | e; exact .inl (e ▸ hk); (rw [e] at hk; cases hk; exact .inr (by rw [World.size_alloc]; omega)))); clear hown1 hgrow1 hnil1 hat1 hr2)
    | fail)
  have hzs : (w2.setCell ⟨wb, 2, none⟩ (.slice (some ⟨q1, 0, none⟩) (p.code.length + 1) q2)).heap.size = w2.heap.size := by simp
  have HA0 : Hid (AddM W B wb nb p vs (.slice sa p.code.length sc) op os w2.heap.size 0 ((w2.setCell ⟨wb, 2, none⟩ (.slice (some ⟨q1, 0, none⟩) (p.code.length + 1) q2)).alloc (.cells #[.int .i64 (wd1 op), .int .i64 (wd2 op)] 3))) := by
    have hb := (Below.refl _ (w2.setCell ⟨wb, 2, none⟩ (.slice (some ⟨q1, 0, none⟩) (p.code.length + 1) q2))).alloc (Nat.le_refl _) (.cells #[.int .i64 (wd1 op), .int .i64 (wd2 op)] 3)
    have hr := Row.new (w2.setCell ⟨wb, 2, none⟩ (.slice (some ⟨q1, 0, none⟩) (p.code.length + 1) q2)) 3 [.int .i64 (wd1 op), .int .i64 (wd2 op)]
    rw [hzs] at hr
    exact ⟨⟨_, (unhide HE).1.later hb, (unhide HE).2.trans (WrT.later hb)⟩, hr⟩
  clear HE e1' e2' c2 hzs
  generalize ((w2.setCell ⟨wb, 2, none⟩ (.slice (some ⟨q1, 0, none⟩) (p.code.length + 1) q2)).alloc (.cells #[.int .i64 (wd1 op), .int .i64 (wd2 op)] 3)) = W0 at *
  generalize w2.heap.size = N at *
  go_loopw [32] (fun iv wr => ∃ i : Nat, iv = .int .i64 i ∧ i ≤ 2 ∧ Hid (AddM W B wb nb p vs (.slice sa p.code.length sc) op os N i wr)) (fun iv _ => 2 - intN iv)
  case atStart => exact ⟨0, rfl, by omega, HA0⟩
  case round =>
    clear HA0
    obtain ⟨i, rfl, hi2, HR⟩ := hrel
    obtain ⟨vc1, hm1, ht1⟩ := (unhide HR).wm
    by_cases hi : i < 2
    · have t1 : (i : Int) < 2 := by omega
      have t0 : (0 : Int) ≤ (i : Int) := by omega
      obtain ⟨ca, cc, hvc⟩ := own_sh hm1.code
      subst hvc
      have hcl1 := addAt_len p op os i
      have hwd := wdAt_le op i
      have cw : wr.cell? ⟨N, i, none⟩ = some (.int .i64 (wdAt op i)) := by
        match i, hi with
        | 0, _ => exact (unhide HR).row.cell? (i := 0) rfl
        | 1, _ => exact (unhide HR).row.cell? (i := 1) rfl
      have hnx : os.getD i 0 < 2147483648 := by
        rw [List.getD_eq_getElem?_getD]
        by_cases ho : i < os.length
        · rw [List.getElem?_eq_getElem ho]; exact unhide HOS _ (List.getElem_mem ho)
        · rw [List.getElem?_eq_none (by omega)]; decide
      have hco : i < os.length → a = some ⟨ob, 0, none⟩ ∧ wr.cell? ⟨ob, i, none⟩ = some (.int .i64 ((os.getD i 0 : Nat) : Int)) := fun ho => by
        obtain ⟨e1, e2⟩ := unhide HA (by omega)
        refine ⟨e1, (e2.wrt (unhide HM) ht1 (by decide) (by decide) (by decide)).cell? ?_⟩
        rw [List.getElem?_map, List.getElem?_eq_getElem ho, List.getD_eq_getElem?_getD, List.getElem?_eq_getElem ho]
        rfl
      have c2 := hm1.row.cell? (i := 2) rfl
      have hBw : B ≤ wr.heap.size := Nat.le_trans hB ht1.tn.size
      have CB := hide (bytes_any wb (os.getD i 0) (wdAt op i) hwd _ _ _ _ wr.drew hm1.row hnx)
      have HM1 := hide hm1
      have HT1 := hide ht1
      clear hm1 ht1
      generalize hn : os.getD i 0 = n at *
      generalize hk : wdAt op i = k at *
      by_cases ho : i < os.length
      · obtain ⟨rfl, co⟩ := hco ho
        have t2 : (i : Int) < (os.length : Int) := by omega
        clear hco
        go_wp2_with fail
        go_region_law (first
          | (go_simp; go_at_call 148; refine (unhide CB).mono ?_; rintro e w3 ⟨N3, rfl, hN3, hr3, hn3, ht3⟩; have d2 := hr3.cell? (i := 2) rfl; have HO3 := hide (own_same (unhide HM1).code (fun q hq => ht3.block q ((unhide HM1).code.lt q hq).2 (by have := ((unhide HM1).code.lt q hq).1; omega))); have HN3 := hide hN3; have HR3 := hide hr3; have HT3 := hide ((Tn.later (p := fun q => q = wb) (Below.refl _ wr).drew).trans ht3); have hz3 := ht3.size; clear hN3 hr3 ht3 hn3)
          | (refine step_append_fresh rfl (.tmp 49) (.tmp 53) 126 rfl B 5 i0 _ 1 1 Tryz.underlying126 hi0 hz0 hz1 hz2 rfl (by decide) _ (addAt p op os i).code.length _ (by rfl) (unhide HO3) ⟨N3, 0, none⟩ k k (Lib.byteCells (Cp.beB n k)) (by rfl) (by rw [Lib.byteCells_length, beB_len _ _ hwd]; omega) (fun j u hj => by rw [addr_add0]; exact (unhide HN3).cell? hj) (byte_one _) (by unfold maxLen; omega) (by omega) (by have h7 : wr.drew.heap.size = wr.heap.size := rfl; omega) ?_; intro v4 w4 hown4 hgrow4 hat4; obtain ⟨q3, q4, rfl⟩ := own_sh hown4; have hr4 := (unhide HR3).grown hgrow4 (own_ne (unhide HM1).code hwB); have e1 := hr4.cell? (i := 2) rfl; have e2 := hr4.frozen 2; have HE4 := hide ((unhide HM1).addCode (bs := Cp.beB n k) (unhide HT3) (unhide HR3) hgrow4 (by rw [beB_len _ _ hwd]; exact hown4) (fun q hq => by rcases hat4 with e | e; exact .inl (e ▸ hq); (rw [e] at hq; cases hq; exact .inr (by have h7 : wr.drew.heap.size = wr.heap.size := rfl; omega)))); clear hown4 hgrow4 hat4 hr4))
        all_goals go_wp2_with fail
        all_goals go_roundw
        all_goals first
          | (refine ⟨i + 1, by go_num, by omega, ⟨⟨_, ?_, (unhide HT1).trans (unhide HE4).2⟩, (unhide HR).row.wrt (unhide HM1) (unhide HE4).2 (by decide) (by decide) (by decide)⟩⟩
             show WrM _ B wb nb ((addAt p op os i).put (os.getD i 0) (wdAt op i)) vs _
             rw [hn, hk]
             exact (unhide HE4).1)
          | (simp only [intN]; omega)
      · have hn0 : n = 0 := by rw [← hn, List.getD_eq_getElem?_getD, List.getElem?_eq_none (by omega)]; rfl
        have t2 : ¬ (i : Int) < (os.length : Int) := by omega
        subst hn0
        clear hco
        go_wp2_with fail
        go_region_law (first
          | (go_simp; go_at_call 148; refine (unhide CB).mono ?_; rintro e w3 ⟨N3, rfl, hN3, hr3, hn3, ht3⟩; have d2 := hr3.cell? (i := 2) rfl; have HO3 := hide (own_same (unhide HM1).code (fun q hq => ht3.block q ((unhide HM1).code.lt q hq).2 (by have := ((unhide HM1).code.lt q hq).1; omega))); have HN3 := hide hN3; have HR3 := hide hr3; have HT3 := hide ((Tn.later (p := fun q => q = wb) (Below.refl _ wr).drew).trans ht3); have hz3 := ht3.size; clear hN3 hr3 ht3 hn3)
          | (refine step_append_fresh rfl (.tmp 49) (.tmp 53) 126 rfl B 5 i0 _ 1 1 Tryz.underlying126 hi0 hz0 hz1 hz2 rfl (by decide) _ (addAt p op os i).code.length _ (by rfl) (unhide HO3) ⟨N3, 0, none⟩ k k (Lib.byteCells (Cp.beB 0 k)) (by rfl) (by rw [Lib.byteCells_length, beB_len _ _ hwd]; omega) (fun j u hj => by rw [addr_add0]; exact (unhide HN3).cell? hj) (byte_one _) (by unfold maxLen; omega) (by omega) (by have h7 : wr.drew.heap.size = wr.heap.size := rfl; omega) ?_; intro v4 w4 hown4 hgrow4 hat4; obtain ⟨q3, q4, rfl⟩ := own_sh hown4; have hr4 := (unhide HR3).grown hgrow4 (own_ne (unhide HM1).code hwB); have e1 := hr4.cell? (i := 2) rfl; have e2 := hr4.frozen 2; have HE4 := hide ((unhide HM1).addCode (bs := Cp.beB 0 k) (unhide HT3) (unhide HR3) hgrow4 (by rw [beB_len _ _ hwd]; exact hown4) (fun q hq => by rcases hat4 with e | e; exact .inl (e ▸ hq); (rw [e] at hq; cases hq; exact .inr (by have h7 : wr.drew.heap.size = wr.heap.size := rfl; omega)))); clear hown4 hgrow4 hat4 hr4))
        all_goals go_wp2_with fail
        all_goals go_roundw
        all_goals first
          | (refine ⟨i + 1, by go_num, by omega, ⟨⟨_, ?_, (unhide HT1).trans (unhide HE4).2⟩, (unhide HR).row.wrt (unhide HM1) (unhide HE4).2 (by decide) (by decide) (by decide)⟩⟩
             show WrM _ B wb nb ((addAt p op os i).put (os.getD i 0) (wdAt op i)) vs _
             rw [hn, hk]
             exact (unhide HE4).1)
          | (simp only [intN]; omega)
    · have hie : i = 2 := by omega
      subst hie
      have t1 : ¬ ((2 : Nat) : Int) < 2 := by omega
      have HM1 := hide hm1
      have HT1 := hide ht1
      clear hm1 ht1
      go_wp2_with fail
      go_end0
      exact ⟨rfl, _, unhide HM1, unhide HT1⟩
end Go.Proofs.YtjelacjggijmfaaGreatDoor
namespace Go.Proofs.YtjelacjggijmfaaGreatDoor
open Go.RowKit Go.MapKept Go.ChangeMaps Go.Maps

abbrev Flags := List (Pl.Bs × Nat)
def flEnts (fl : Flags) : Ents := fl.map fun x => (x.1, Value.int .i64 (x.2 : Int))
def flagOf (fl : Flags) (k : Pl.Bs) : Nat := ((fl.find? fun x => x.1 == k).map (·.2)).getD 0
theorem mget_fl (k : Pl.Bs) : ∀ fl : Flags, (mget (flEnts fl) k).getD (.int .i64 0) = .int .i64 (flagOf fl k : Int)
  | [] => rfl
  | x :: r => by
    have ih := mget_fl k r
    unfold mget flEnts flagOf at *
    rw [List.map_cons, List.find?_cons, List.find?_cons]
    cases hx : (x.1 == k) with
    | true => simp
    | false => simp only; exact ih
theorem flagOf_lt (k : Pl.Bs) (n : Nat) (hn : 0 < n) (fl : Flags) (h : ∀ x ∈ fl, x.2 < n) : flagOf fl k < n := by
  unfold flagOf
  cases hf : fl.find? (fun x => x.1 == k) with
  | none => exact hn
  | some x => exact h _ (List.mem_of_find?_eq_some hf)
theorem num_le (p : Cp.Wr) (s : Pl.Bs) : p.num s ≤ p.strs.length := by
  unfold Cp.Wr.num
  cases hf : p.strs.findIdx? (fun x => x == s) with
  | none => exact Nat.le_refl _
  | some i => exact Nat.le_of_lt (List.findIdx?_eq_some_iff_getElem.1 hf).1
theorem str_len (p : Cp.Wr) (s : Pl.Bs) : (p.str s).strs.length ≤ p.strs.length + 1 := by
  unfold Cp.Wr.str
  cases hf : p.strs.findIdx? (fun x => x == s) with
  | none => simp
  | some i => simp
theorem str_code (p : Cp.Wr) (s : Pl.Bs) : (p.str s).code = p.code := by
  unfold Cp.Wr.str
  cases hf : p.strs.findIdx? (fun x => x == s) with
  | none => rfl
  | some i => rfl
theorem addAt_strs (p : Cp.Wr) (op : Nat) (os : List Nat) : ∀ i, (addAt p op os i).strs = p.strs
  | 0 => rfl
  | i + 1 => addAt_strs p op os i
def addW (p : Cp.Wr) (op : Nat) (os : List Nat) : Cp.Wr := addAt p op os 2
theorem addW_len (p : Cp.Wr) (op : Nat) (os : List Nat) : (addW p op os).code.length ≤ p.code.length + 5 := addAt_len p op os 2
theorem addW_strs (p : Cp.Wr) (op : Nat) (os : List Nat) : (addW p op os).strs = p.strs := addAt_strs p op os 2
def staleStep (fl : Flags) (nm : Nat) (q : Cp.Wr) (need : Pl.Bs) : Cp.Wr :=
  addW (addW ((addW (addW q 4 [flagOf fl need]) 5 []).str need) 3 [nm, (addW (addW q 4 [flagOf fl need]) 5 []).num need]) 5 []
def staleW (fl : Flags) (p : Cp.Wr) (phony : Bool) (name : Pl.Bs) (needs : List Pl.Bs) : Cp.Wr :=
  if phony then addW p 1 [1] else needs.foldl (staleStep fl (p.num name)) (addW (p.str name) 2 [p.num name])
theorem staleStep_strs (fl : Flags) (nm : Nat) (q : Cp.Wr) (need : Pl.Bs) : (staleStep fl nm q need).strs.length ≤ q.strs.length + 1 := by
  unfold staleStep
  rw [addW_strs, addW_strs]
  refine Nat.le_trans (str_len _ _) ?_
  rw [addW_strs, addW_strs]
  exact Nat.le_refl _
theorem staleStep_len (fl : Flags) (nm : Nat) (q : Cp.Wr) (need : Pl.Bs) : (staleStep fl nm q need).code.length ≤ q.code.length + 20 := by
  unfold staleStep
  have h1 := addW_len q 4 [flagOf fl need]
  have h2 := addW_len (addW q 4 [flagOf fl need]) 5 []
  have h3 := addW_len ((addW (addW q 4 [flagOf fl need]) 5 []).str need) 3 [nm, (addW (addW q 4 [flagOf fl need]) 5 []).num need]
  have h4 := addW_len (addW ((addW (addW q 4 [flagOf fl need]) 5 []).str need) 3 [nm, (addW (addW q 4 [flagOf fl need]) 5 []).num need]) 5 []
  rw [str_code] at h3
  omega
theorem staleFold_len (fl : Flags) (nm : Nat) : ∀ (needs : List Pl.Bs) (q : Cp.Wr), (needs.foldl (staleStep fl nm) q).strs.length ≤ q.strs.length + needs.length ∧ (needs.foldl (staleStep fl nm) q).code.length ≤ q.code.length + 20 * needs.length
  | [], q => ⟨Nat.le_refl _, Nat.le_refl _⟩
  | n :: r, q => by
    have ih := staleFold_len fl nm r (staleStep fl nm q n)
    have h1 := staleStep_strs fl nm q n
    have h2 := staleStep_len fl nm q n
    rw [List.foldl_cons, List.length_cons]
    omega
theorem staleW_len (fl : Flags) (p : Cp.Wr) (ph : Bool) (name : Pl.Bs) (needs : List Pl.Bs) : (staleW fl p ph name needs).strs.length ≤ p.strs.length + 1 + needs.length ∧ (staleW fl p ph name needs).code.length ≤ p.code.length + 5 + 20 * needs.length := by
  unfold staleW
  cases ph with
  | true =>
    rw [if_pos rfl, addW_strs]
    have := addW_len p 1 [1]
    omega
  | false =>
    simp only [Bool.false_eq_true, if_false]
    have h1 := staleFold_len fl (p.num name) needs (addW (p.str name) 2 [p.num name])
    have h2 := addW_len (p.str name) 2 [p.num name]
    have h3 := str_len p name
    rw [addW_strs] at h1
    rw [str_code] at h2
    omega

section
variable {B wb nb : Nat} {p : Cp.Wr} {vs vc : Value} {W : World}
/-- What Add leaves. -/
def AddP (B wb nb : Nat) (p : Cp.Wr) (vs vc : Value) (W : World) (op : Nat) (os : List Nat) (e : Ending) (W' : World) : Prop := e = .returned (.tuple #[]) ∧ ∃ vc', WrM W' B wb nb (addW p op os) vs vc' ∧ WrT wb nb vs vc vs vc' W W'
theorem wrAdd0 (h : WrM W B wb nb p vs vc) (hB : B ≤ W.heap.size) (hcl : p.code.length ≤ 1073741824) (op : Nat) (o : Int) (ho : o = op) (hop : op < 256) :
    Calls Tryz.prog 100 #[.pointer (some ⟨wb, 0, none⟩), .int .u8 o, .slice none 0 0] W (AddP B wb nb p vs vc W op []) := by
  subst ho
  exact wrAdd_any B wb nb p vs vc op [] none 0 0 W h hB hop (by simp) (by simp) (fun e => absurd e (by simp)) hcl
theorem wrAdds (h : WrM W B wb nb p vs vc) (hB : B ≤ W.heap.size) (hcl : p.code.length ≤ 1073741824) (op : Nat) (o : Int) (ho : o = op) (hop : op < 256) (os : List Nat) (hos : ∀ x ∈ os, x < 2147483648) (hl : os.length ≤ 2) (n : Nat) (hn : n = os.length) (N : Nat) (hN : N = W.heap.size) (cs : Array Value) (hcs : cs = (os.map fun x : Nat => Value.int .i64 (x : Int)).toArray) :
    Calls Tryz.prog 100 #[.pointer (some ⟨wb, 0, none⟩), .int .u8 o, .slice (some ⟨N, 0, none⟩) n n] (W.alloc (.cells cs 3)) (AddP B wb nb p vs vc W op os) := by
  subst ho
  subst hn
  subst hN
  subst hcs
  have hb := (Below.refl W.heap.size W).alloc (Nat.le_refl _) (.cells (os.map fun x : Nat => Value.int .i64 (x : Int)).toArray 3)
  refine (wrAdd_any B wb nb p vs vc op os (some ⟨W.heap.size, 0, none⟩) os.length W.heap.size _ (h.later hb) (Nat.le_trans hB hb.size) hop hos hl (fun _ => ⟨rfl, Row.new W _ _⟩) hcl).mono ?_
  rintro e w1 ⟨rfl, vc', h1, h2⟩
  exact ⟨rfl, vc', h1, (WrT.later hb).trans h2⟩
theorem WrM.size (h : WrM W B wb nb p vs vc) : wb < W.heap.size ∧ nb < W.heap.size := ⟨h.row.lt, h.nums.lt⟩
/-- Nothing below has turned. -/
theorem WrT.below {vs' vc' : Value} {W' : World} (h : WrM W B wb nb p vs vc) (ht : WrT wb nb vs vc vs' vc' W W') {L : Nat} (h1 : L ≤ wb) (h2 : L ≤ nb) : Below L W W' :=
  ht.tn.below (Nat.le_trans h1 (Nat.le_of_lt h.size.1)) (fun k e => by
    have := h.wB
    rcases e with e | e | e | e
    · omega
    · omega
    · have := (h.strs.lt k e.symm).1; omega
    · have := (h.code.lt k e.symm).1; omega)
/-- A map that is not the writer's stays. -/
theorem SMap.wrt {vs' vc' : Value} {W' : World} {fb : Nat} {l : Ents} (g : SMap W fb l) (h : WrM W B wb nb p vs vc) (ht : WrT wb nb vs vc vs' vc' W W') (h1 : fb < B) (h2 : fb ≠ nb) : SMap W' fb l :=
  g.tn ht.tn (fun e => by
    rcases e with e | e | e | e
    · exact row_ne_map' h.row g e.symm
    · exact h2 e
    · exact own_ne h.strs h1 e
    · exact own_ne h.code h1 e)
end
def nodeV (name : Pl.Bs) (ph : Bool) (needs cmds : Value) (stem : Pl.Bs) : Value := .agg #[strV name, .bool ph, needs, cmds, strV stem]
/-- Strings that lie in a row. -/
def RdN (W : World) (b o : Nat) (ss : List Pl.Bs) : Prop := ∀ (j : Nat) (x : Pl.Bs), ss[j]? = some x → W.cell? ⟨b, o + j, none⟩ = some (strV x)
theorem RdN.below {W W' : World} {b o L : Nat} {ss : List Pl.Bs} (h : RdN W b o ss) (hb : Below L W W') (hl : b < L) : RdN W' b o ss := fun j x hj => (hb.cell (p := ⟨b, o + j, none⟩) hl).trans (h j x hj)
end Go.Proofs.YtjelacjggijmfaaGreatDoor
namespace Go.Proofs.YtjelacjggijmfaaGreatDoor
open Go.RowKit Go.MapKept Go.ChangeMaps Go.Maps

/-- What stands when some of it is written. -/
def WrX (W : World) (B wb nb : Nat) (vs vc : Value) (q : Cp.Wr) (wr : World) : Prop := ∃ vs' vc', WrM wr B wb nb q vs' vc' ∧ WrT wb nb vs vc vs' vc' W wr
set_option maxHeartbeats 1000000 in
set_option maxRecDepth 100000 in
theorem writeStale_any (B L wb nb fb : Nat) (p : Cp.Wr) (vs vc : Value) (fl : Flags) (name stem : Pl.Bs) (ph : Bool) (needs : List Pl.Bs) (a : Option Addr) (cap b o : Nat) (cmds : Value) (W : World) (h : WrM W B wb nb p vs vc) (hB : B ≤ W.heap.size) (hL1 : L ≤ wb) (hL2 : L ≤ nb)
    (hf : SMap W fb (flEnts fl)) (hfB : fb < B) (hfn : fb ≠ nb) (hfl : ∀ x ∈ fl, x.2 < 2147483648)
    (ha : 0 < needs.length → a = some ⟨b, o, none⟩ ∧ b < L ∧ RdN W b o needs) (hn : needs.length ≤ 1000) (hsl : p.strs.length ≤ 1000000) (hcl : p.code.length ≤ 1000000000) :
    Calls Tryz.prog 97 #[.pointer (some ⟨wb, 0, none⟩), nodeV name ph (.slice a needs.length cap) cmds stem, .map (some fb)] W fun e W' => e = .returned (.tuple #[]) ∧ WrX W B wb nb vs vc (staleW fl p ph name needs) W' := by
  have zi : ∀ w, (zeroValue 3).run Tryz.prog w = .ok (.int .i64 0) w := fun w => by kernel_rfl
  have HB0 := hide ((Below.refl W.heap.size W).alloc (Nat.le_refl _) (.cells #[strV name, .bool ph, .slice a needs.length cap, cmds, strV stem] 197))
  have HM := hide (h.later (unhide HB0))
  have HT := hide (WrT.later (wb := wb) (nb := nb) (vs := vs) (vc := vc) (unhide HB0))
  have hB1 := Nat.le_trans hB (unhide HB0).size
  have HF := hide hf
  have HFL := hide hfl
  have HA := hide ha
  have H0 := hide h
  clear h ha hfl hf
  cases ph with
  | true =>
    have e0 : staleW fl p true name needs = addW p 1 [1] := rfl
    rw [e0]
    have C1 := hide (wrAdds (unhide HM) hB1 (by omega) 1 1 rfl (by decide) [1] (by simp) (by simp) 1 rfl (W.heap.size + 1) (World.size_alloc _ _).symm #[.int .i64 1] rfl)
    unfold nodeV strV at *
    go_enter Tryz.func97, Tryz.ntmps97
    go_wp2_with (first
      | (go_at_call 100; refine (unhide C1).mono ?_; rintro e w1 ⟨rfl, vc1, hm1, ht1⟩)
      | fail)
    refine bodyPost_ret (results_none rfl _ _ _) rfl ?_
    exact ⟨rfl, _, _, hm1, (unhide HT).trans ht1⟩
  | false =>
    have e0 : staleW fl p false name needs = needs.foldl (staleStep fl (p.num name)) (addW (p.str name) 2 [p.num name]) := rfl
    rw [e0]
    have HR0 := hide (Row.new W 197 [strV name, .bool false, .slice a needs.length cap, cmds, strV stem])
    have hnl := num_le p name
    have C1 := hide (wrString_any B wb nb p vs vc name _ (unhide HM) hB1 (by omega))
    have hcl1 : (p.str name).code.length ≤ 1000000000 := by rw [str_code]; exact hcl
    have hsl1 : (p.str name).strs.length ≤ 1000001 := by have := str_len p name; omega
    have hsl2 := staleFold_len fl (p.num name)
    unfold nodeV strV at *
    go_enter Tryz.func97, Tryz.ntmps97
    go_wp2_with (first
      | (go_at_call 101; refine (unhide C1).mono ?_; rintro e w1 ⟨rfl, vs1, hm1, ht1⟩; have hB2 := Nat.le_trans hB1 ht1.tn.size; have HM1 := hide hm1; have HT1 := hide ((unhide HT).trans ht1); have HR1 := hide ((unhide HR0).wrt (unhide HM) ht1 (by decide) (by decide) (by decide)); clear hm1 ht1)
      | (go_at_call 100; refine (wrAdds (unhide HM1) hB2 (by omega) 2 2 rfl (by decide) [p.num name] (by intro x hx; rw [List.mem_singleton] at hx; omega) (by simp) 1 rfl _ rfl #[.int .i64 (p.num name)] rfl).mono ?_; rintro e w2 ⟨rfl, vc2, hm2, ht2⟩; have c2 := ((unhide HR1).wrt (unhide HM1) ht2 (by decide) (by decide) (by decide)).cell? (i := 2) rfl; have HX0 : Hid (WrX W B wb nb vs vc (addW (p.str name) 2 [p.num name]) w2) := ⟨_, _, hm2, (unhide HT1).trans ht2⟩; clear hm2 ht2)
      | fail)
    have hc2 := addW_len (p.str name) 2 [p.num name]
    have hs2 := addW_strs (p.str name) 2 [p.num name]
    generalize hqq : addW (p.str name) 2 [p.num name] = q at *
    have HQQ := hide hqq
    clear hqq
    go_loopw [25] (fun iv wr => ∃ i : Nat, iv = .int .i64 i ∧ i ≤ needs.length ∧ Hid (WrX W B wb nb vs vc ((needs.take i).foldl (staleStep fl (p.num name)) q) wr)) (fun iv _ => needs.length - intN iv)
    case atStart => exact ⟨0, rfl, by omega, HX0⟩
    case round =>
      clear HX0 c2
      obtain ⟨i, rfl, hi2, HX⟩ := hrel
      by_cases hi : i < needs.length
      · have t1 : (i : Int) < needs.length := by omega
        have t0 : (0 : Int) ≤ (i : Int) := by omega
        obtain ⟨vs3, vc3, hm3, ht3⟩ := unhide HX
        obtain ⟨rfl, hbL, hrd⟩ := unhide HA (by omega)
        have cn := hrd.below ((WrT.below (unhide H0) ht3 hL1 hL2)) hbL i needs[i] (List.getElem?_eq_getElem hi)
        have HF3 := hide ((unhide HF).wrt (unhide H0) ht3 hfB hfn)
        have hl3 := hsl2 (needs.take i) q
        rw [List.length_take, Nat.min_eq_left hi2, hs2] at hl3
        have htk : (needs.take (i + 1)).foldl (staleStep fl (p.num name)) q = staleStep fl (p.num name) ((needs.take i).foldl (staleStep fl (p.num name)) q) needs[i] := by
          rw [List.take_add_one, List.foldl_append, List.getElem?_eq_getElem hi]
          rfl
        have hB3 := Nat.le_trans hB ht3.tn.size
        have HTK := hide htk
        have HM3 := hide hm3
        have HT3 := hide ht3
        clear hm3 ht3 htk hrd
        generalize hq3 : (needs.take i).foldl (staleStep fl (p.num name)) q = q3 at *
        generalize hx : needs[i] = x at *
        have hfx := flagOf_lt x 2147483648 (by decide) fl (unhide HFL)
        have hmx := mget_fl x fl
        unfold strV at cn
        have hc4 := addW_len q3 4 [flagOf fl x]
        have hc5 := addW_len (addW q3 4 [flagOf fl x]) 5 []
        have hs4 := addW_strs q3 4 [flagOf fl x]
        have hs5 := addW_strs (addW q3 4 [flagOf fl x]) 5 []
        have hnx := num_le (addW (addW q3 4 [flagOf fl x]) 5 []) x
        have hc6 := str_code (addW (addW q3 4 [flagOf fl x]) 5 []) x
        have hc7 := addW_len ((addW (addW q3 4 [flagOf fl x]) 5 []).str x) 3 [p.num name, (addW (addW q3 4 [flagOf fl x]) 5 []).num x]
        rw [hc6] at hc7
        rw [hs5, hs4] at hnx
        have hnx3 : (addW (addW q3 4 [flagOf fl x]) 5 []).num x < 2147483648 := by omega
        have hnm3 : p.num name < 2147483648 := by omega
        have hl4 : q3.code.length ≤ 1073741824 := by omega
        have hl5 : (addW q3 4 [flagOf fl x]).code.length ≤ 1073741824 := by omega
        have hl6 : (addW (addW q3 4 [flagOf fl x]) 5 []).strs.length ≤ 1048576 := by rw [hs5, hs4]; omega
        have hl7 : ((addW (addW q3 4 [flagOf fl x]) 5 []).str x).code.length ≤ 1073741824 := by rw [hc6]; omega
        have hl8 : (addW ((addW (addW q3 4 [flagOf fl x]) 5 []).str x) 3 [p.num name, (addW (addW q3 4 [flagOf fl x]) 5 []).num x]).code.length ≤ 1073741824 := by omega
        clear hc4 hc5 hs4 hs5 hc6 hc7 hnx hl3
        have C4 := hide (wrAdds (unhide HM3) hB3 hl4 4 4 rfl (by decide) [flagOf fl x] (by intro y hy; rw [List.mem_singleton] at hy; omega) (by simp) 1 rfl _ rfl #[.int .i64 (flagOf fl x)] rfl)
        go_wp2_with (first
          | (at_lookup; refine wpList_look_one _ rfl _ _ 179 rfl 9 3 Tryz.underlying179 Tryz.underlying9 (.int .i64 0) (zi _) fb (flEnts fl) rfl (unhide HF3) x rfl _ hmx ?_)
          | (go_at_call 100; refine (unhide C4).mono ?_; clear C4; rintro e w4 ⟨rfl, vc4, hm4, ht4⟩; have hB4 := Nat.le_trans hB3 ht4.tn.size; have C5 := hide (wrAdd0 hm4 hB4 hl5 5 5 rfl (by decide)); have HT4 := hide ((unhide HT3).trans ht4); clear hm4 ht4)
          | (go_at_call 100; refine (unhide C5).mono ?_; clear C5; rintro e w5 ⟨rfl, vc5, hm5, ht5⟩; have hB5 := Nat.le_trans hB4 ht5.tn.size; have C6 := hide (wrString_any B wb nb _ _ _ x _ hm5 hB5 hl6); have HT5 := hide ((unhide HT4).trans ht5); clear hm5 ht5)
          | (go_at_call 101; refine (unhide C6).mono ?_; clear C6; rintro e w6 ⟨rfl, vs6, hm6, ht6⟩; have hB6 := Nat.le_trans hB5 ht6.tn.size; have C7 := hide (wrAdds hm6 hB6 hl7 3 3 rfl (by decide) [p.num name, (addW (addW q3 4 [flagOf fl x]) 5 []).num x] (by intro y hy; rw [List.mem_cons, List.mem_singleton] at hy; omega) (by simp) 2 rfl _ rfl #[.int .i64 (p.num name), .int .i64 ((addW (addW q3 4 [flagOf fl x]) 5 []).num x)] rfl); have HT6 := hide ((unhide HT5).trans ht6); clear hm6 ht6)
          | (go_at_call 100; refine (unhide C7).mono ?_; clear C7; rintro e w7 ⟨rfl, vc7, hm7, ht7⟩; have hB7 := Nat.le_trans hB6 ht7.tn.size; have C8 := hide (wrAdd0 hm7 hB7 hl8 5 5 rfl (by decide)); have HT7 := hide ((unhide HT6).trans ht7); clear hm7 ht7)
          | (go_at_call 100; refine (unhide C8).mono ?_; clear C8; rintro e w8 ⟨rfl, vc8, hm8, ht8⟩; have HX8 : Hid (WrX W B wb nb vs vc (staleStep fl (p.num name) q3 x) w8) := ⟨_, _, hm8, (unhide HT7).trans ht8⟩; clear hm8 ht8)
          | fail)
        go_roundw
        case rel => exact ⟨i + 1, by go_num, by omega, by rw [unhide HTK]; exact HX8⟩
        case measure => simp only [intN]; omega
      · have hie : i = needs.length := by omega
        subst hie
        have t1 : ¬ (needs.length : Int) < needs.length := by omega
        rw [List.take_length] at HX
        go_wp2_with fail
        go_end0
        exact ⟨rfl, by rw [unhide HQQ]; exact unhide HX⟩
end Go.Proofs.YtjelacjggijmfaaGreatDoor
