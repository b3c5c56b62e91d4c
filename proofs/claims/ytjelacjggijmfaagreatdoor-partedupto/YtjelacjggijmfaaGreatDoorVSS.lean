/-
  Package plans: is a plan sound? the loop over its instructions.
  Package plans: is a plan sound?
-/
import Derived.Test.YtjelacjggijmfaaGreatDoorVSP5
namespace Go.Proofs.YtjelacjggijmfaaGreatDoor
open Go.RowKit Go.Shelf Go.Maps
attribute [local go_sem] Oper.semAt_some

/-- Between two rounds: the plan, the result, the walk. -/
structure SoundI (n : Nat) (w : World) (sl : Value) (s : ByteArray) (m h k : Nat) (D : DataW Unit) (W : World) : Prop where
  plan : Row W n 120 [sl, .string s]
  res : Row W (n + 1) 4 [.bool false]
  map : Mw W (n + 2) k D
  walk : Row W (n + 3) 249 [.int .i64 m, .int .i64 h, .map (some (n + 2))]
  below : Below n w W
  size : n + 5 ≤ W.heap.size
theorem Mw.own (B b k : Nat) (D : DataW Unit) (hb : b < B) {β : Type} : OwnFrom B (fun (_ : β) W => Mw W b k D) := fun _ X Y row hs hg hr =>
  hs.kept hg (fun e => by have := (hr b e.symm).1; omega)
theorem SoundI.own {n : Nat} {w : World} {sl : Value} {s : ByteArray} {m h k : Nat} {D : DataW Unit} {B : Nat} {β : Type} (hB : n + 5 ≤ B) : OwnFrom B (fun (_ : β) W => SoundI n w sl s m h k D W) := fun _ X Y row hs hg hr =>
  ⟨Row.own B _ _ _ () X Y row hs.plan hg hr, Row.own B _ _ _ () X Y row hs.res hg hr, Mw.own B _ _ _ (by omega) () X Y row hs.map hg hr, Row.own B _ _ _ () X Y row hs.walk hg hr,
    hs.below.trans ⟨hg.os, hg.tape, hg.output, hg.size, fun k hk => hg.block k (by have := hs.size; omega) (fun e => by have := (hr k e.symm).1; omega)⟩, Nat.le_trans hs.size hg.size⟩
/-- A round has left: the result. -/
structure SoundX (n : Nat) (w : World) (W : World) : Prop where
  res : Row W (n + 1) 4 [.bool false]
  below : Below n w W
theorem SoundX.own {n : Nat} {w : World} {B : Nat} {β : Type} (hB : n ≤ B) : OwnFrom B (fun (_ : β) W => SoundX n w W) := fun _ X Y row hs hg hr =>
  ⟨Row.own B _ _ _ () X Y row hs.res hg hr, hs.below.trans ⟨hg.os, hg.tape, hg.output, hg.size, fun k hk => hg.block k (by have := hs.res.lt; omega) (fun e => by have := (hr k e.symm).1; omega)⟩⟩
/-- What a round may turn. -/
abbrev Inner (n : Nat) : World → World → Prop := Turned (fun k => k = n + 1 ∨ k = n + 2 ∨ k = n + 3)
theorem Inner.keeps {n : Nat} {X Y : World} (h : Inner n X Y) : KeepsFrom (n + 5) X Y :=
  ⟨h.size, fun k _ hk ho _ => (h.block k (Array.getElem?_eq_some_iff.1 ho).1 (by omega)).trans ho⟩
theorem Inner.kp {n l : Nat} {w : World} {sl : Value} {s : ByteArray} {m hh k : Nat} {D : DataW Unit} {X Y : World} (h : Inner n X Y) (hI : SoundI n w sl s m hh k D X) : KpI (n + 4) l X Y := by
  refine ⟨fun c f e => (h.block _ (Array.getElem?_eq_some_iff.1 e).1 (by omega)).trans e, fun j c f e => (h.block _ (Array.getElem?_eq_some_iff.1 e).1 ?_).trans e, h.size⟩
  rintro (rfl | rfl | rfl)
  · have := hI.res
    unfold Row at this
    rw [this] at e; cases e
  · obtain ⟨es, clock, hb, _⟩ := hI.map
    rw [hb] at e; cases e
  · have := hI.walk
    unfold Row at this
    rw [this] at e; cases e
theorem Inner.x {n : Nat} {w : World} {sl : Value} {s : ByteArray} {m hh k : Nat} {D : DataW Unit} {X Y : World} (h : Inner n X Y) (hI : SoundI n w sl s m hh k D X) (hr : Row Y (n + 1) 4 [.bool false]) : SoundX n w Y :=
  ⟨hr, h.below hI.below (by have := hI.size; omega) (fun k e => by omega)⟩
/-- What is known between two rounds. -/
structure SoundS (c : Pl.Bs) (m : Nat) (pre : List (Pl.Ins × Bool)) (p h k : Nat) (A : Pl.Aw) : Prop where
  inv : ∃ f, InsInv c pre f p
  spec : Pl.Spec c m 0 0 (fun _ => none) ↔ Pl.Spec c m p h A
  h16 : h ≤ 16
  le : k ≤ p
theorem SoundS.cut {c : Pl.Bs} {m : Nat} {pre post : List (Pl.Ins × Bool)} {x : Pl.Ins × Bool} {p h k : Nat} {A : Pl.Aw} (hS : SoundS c m pre p h k A) (hL : Pl.ilist c (c.length + 1) 0 = pre ++ x :: post) :
    p < c.length ∧ ((Pl.whole c p ∧ x = (Pl.mkIns c p, true) ∧ ∃ g, InsInv c (pre ++ [x]) g (Pl.mkIns c p).next) ∨ (¬ Pl.whole c p ∧ x = (⟨0, 0, 0, 0, 0⟩, false))) := by
  obtain ⟨f, hI⟩ := hS.inv
  by_cases hp : p < c.length
  · refine ⟨hp, ?_⟩
    by_cases hw : Pl.whole c p
    · obtain ⟨g, h1, h2⟩ := hI.step hp hw
      rw [hL] at h1
      have := List.append_cancel_left h1
      simp only [List.cons.injEq] at this
      obtain ⟨rfl, _⟩ := this
      exact .inl ⟨hw, rfl, g, h2⟩
    · have h1 := hI.bad hp hw
      rw [hL] at h1
      have := List.append_cancel_left h1
      simp only [List.cons.injEq] at this
      exact .inr ⟨hw, this.1⟩
  · have h1 := hI.done hp
    rw [hL] at h1
    simp at h1
theorem whole_op {c : Pl.Bs} {p : Nat} (hw : Pl.whole c p) : 1 ≤ (Pl.mkIns c p).op ∧ (Pl.mkIns c p).op ≤ 8 := by
  have hz := hw.1
  show 1 ≤ Pl.opAt c p ∧ Pl.opAt c p ≤ 8
  generalize Pl.opAt c p = op at *
  have h9 : ¬ (op = 0 ∨ 9 ≤ op) := fun h => hz (by unfold Pl.isz; repeat rw [if_neg (by omega)])
  omega
theorem first_le (c : Pl.Bs) (p : Nat) : (Pl.mkIns c p).first ≤ 65535 := by
  have h1 := Pl.two_lt c (p + 1)
  have h2 := Pl.opAt_lt c (p + 1)
  unfold Pl.mkIns
  simp only
  split
  · omega
  · split <;> omega
end Go.Proofs.YtjelacjggijmfaaGreatDoor
namespace Go.Proofs.YtjelacjggijmfaaGreatDoor
open Go.RowKit Go.Shelf Go.Maps
attribute [local go_sem] Oper.semAt_some

theorem Row.cells5 {w : World} {b : Nat} {t : TypeId} {a0 a1 a2 a3 a4 : Value} (h : Row w b t [a0, a1, a2, a3, a4]) :
    w.cell? ⟨b, 0, none⟩ = some a0 ∧ w.cell? ⟨b, 1, none⟩ = some a1 ∧ w.cell? ⟨b, 2, none⟩ = some a2 ∧ w.cell? ⟨b, 3, none⟩ = some a3 ∧ w.cell? ⟨b, 4, none⟩ = some a4 := by
  unfold Row at h
  simp [World.cell?, h]
/-- What the calls of a round may turn. -/
abbrev Calld (n : Nat) : World → World → Prop := Turned (fun k => k = n + 2 ∨ k = n + 3)
theorem soundLeave {n l : Nat} {w : World} {sl : Value} {s : ByteArray} {m hh k : Nat} {D : DataW Unit} {X Y : World} (h : Calld n X Y) (hI : SoundI n w sl s m hh k D X) :
    KeepsFrom (n + 5) X (Y.setCell ⟨n + 1, 0, none⟩ (.bool false)) ∧ KpI (n + 4) l X (Y.setCell ⟨n + 1, 0, none⟩ (.bool false)) ∧ SoundX n w (Y.setCell ⟨n + 1, 0, none⟩ (.bool false)) := by
  have hi : Inner n X (Y.setCell ⟨n + 1, 0, none⟩ (.bool false)) := (h.mono (fun k e => .inr e)).set (.inl rfl) 0 _
  exact ⟨hi.keeps, hi.kp hI, hi.x hI ((h.row hI.res (by omega)).set 0 _)⟩
theorem Calld.res {n : Nat} {w : World} {sl : Value} {s : ByteArray} {m hh k : Nat} {D : DataW Unit} {X Y : World} (h : Calld n X Y) (hI : SoundI n w sl s m hh k D X) :
    Y.cell? ⟨n + 1, 0, none⟩ = some (.bool false) ∧ Y.frozen? ⟨n + 1, 0, none⟩ = false :=
  ⟨(h.row hI.res (by omega)).cell 0 (by simp), (h.row hI.res (by omega)).frozen 0⟩
def soundAct (a : Option Addr) (m cap : Nat) (s : ByteArray) (n Bx : Nat) (x : Pl.Ins × Bool) : Act := { tmps := #[.agg #[.slice a m cap, .string s], .pointer (some ⟨n, 0, none⟩), .pointer (some ⟨n + 1, 0, none⟩), .pointer (some ⟨n + 3, 0, none⟩),
  .pointer (some ⟨Bx, 0, none⟩), .bool x.2, .pointer (some ⟨n, 0, none⟩), .slice a m cap, .int .i64 m, .map (some (n + 2)), .agg #[.int .i64 m, .int .i64 0, .map (some (n + 2))], .pointer (some ⟨n, 1, none⟩), .string s,
  .func (.func 169) #[] #[.pointer (some ⟨n + 4, 0, none⟩)], insV x.1, .bool x.2, undef, undef, undef, undef, undef, undef, undef, undef, undef, undef, undef, undef, undef, undef, undef, undef, undef, undef, undef, undef, undef, undef, undef, undef, undef, undef, undef, undef, undef, undef, undef, undef, undef], defers := [] }
def soundW (a : Option Addr) (m cap : Nat) (s : ByteArray) (w : World) : World :=
  ((((w.alloc (.cells #[.slice a m cap, .string s] 120)).alloc (.cells #[.bool false] 4)).alloc (.map #[] 0)).alloc (.cells #[.int .i64 m, .int .i64 0, .map (some (w.heap.size + 2))] 249)).alloc (.cells #[.string s] 9)
theorem soundStart (a : Option Addr) (m cap : Nat) (s : ByteArray) (w : World) : SoundI w.heap.size w (.slice a m cap) s m 0 0 (.map []) (soundW a m cap s w) ∧ (soundW a m cap s w).heap[w.heap.size + 4]? = some (.cells #[.string s] 9 (0, 0)) ∧ (soundW a m cap s w).heap.size = w.heap.size + 5 := by
  have hs : (soundW a m cap s w).heap.size = w.heap.size + 5 := by simp [soundW]
  have hb : Below w.heap.size w (soundW a m cap s w) :=
    (((((Below.refl _ w).alloc (Nat.le_refl _) _).alloc (by simp only [World.size_alloc]; omega) _).alloc (by simp only [World.size_alloc]; omega) _).alloc (by simp only [World.size_alloc]; omega) _).alloc (by simp only [World.size_alloc]; omega) _
  have hbx : ∀ k : Nat, (soundW a m cap s w).heap[k]? = (((((w.heap.push (.cells #[.slice a m cap, .string s] 120)).push (.cells #[.bool false] 4)).push (.map #[] 0)).push (.cells #[.int .i64 m, .int .i64 0, .map (some (w.heap.size + 2))] 249)).push (.cells #[.string s] 9))[k]? := fun _ => rfl
  have hmw : Mw (soundW a m cap s w) (w.heap.size + 2) 0 (.map []) := by
    have h1 := World.ownsMap_made (H := Unit) ((w.alloc (.cells #[.slice a m cap, .string s] 120)).alloc (.cells #[.bool false] 4)) Tryz.prog 3 (plainElem Tryz.prog 3)
    have h2 : ((w.alloc (.cells #[.slice a m cap, .string s] 120)).alloc (.cells #[.bool false] 4)).heap.size = w.heap.size + 2 := by simp
    rw [h2] at h1
    exact (h1.alloc _).alloc _
  refine ⟨⟨?_, ?_, hmw, ?_, hb, by omega⟩, ?_, hs⟩
  all_goals (try unfold Row); rw [hbx]; simp only [Array.getElem?_push, Array.size_push]; repeat (first | rw [if_pos trivial] | rw [if_pos (by omega)] | rw [if_neg (by omega)])
  all_goals rfl
set_option maxHeartbeats 2000000 in
set_option maxRecDepth 20000 in
theorem sound_in (a : Option Addr) (m cap : Nat) (s : ByteArray) (w : World) (hs : s.size ≤ 8388608) :
    CallsIn Fence.wide 9 Tryz.prog 81 #[.agg #[.slice a m cap, .string s]] w fun e w' => (∃ r : Bool, e = .returned (.bool r) ∧ (r = true ↔ Pl.Spec s.data.toList m 0 0 (fun _ => none))) ∧ Below w.heap.size w w' := by
  have hmix : Tryz.prog.follows .mixedOrders = true := by kernel_rfl
  have hmm := @run_makeMap Tryz.prog
  refine callsIn_of_wp_marks Tryz.func81 rfl trivial ?_
  simp only [Tryz.ntmps81, List.size_toArray, List.length_cons, List.length_nil, Nat.reduceAdd, Nat.reduceSub, Array.replicate_succ, Array.replicate_zero, List.push_toArray, List.append_toArray, List.nil_append, List.cons_append]
  gi_wp2_with fail
  refine ⟨trivial, (callsIn_wide.2 (instructions_any _ _)).mono ?_⟩
  rintro e w2 ⟨rfl, rfl⟩
  gi_wp2_with fail
  simp only [Nat.add_assoc, Nat.reduceAdd]
  clear hmm
  obtain ⟨hV0, htx, hVs⟩ := soundStart a m cap s w
  unfold soundW at hV0 htx hVs
  generalize ((((w.alloc (.cells #[.slice a m cap, .string s] 120)).alloc (.cells #[.bool false] 4)).alloc (.map #[] 0)).alloc (.cells #[.int .i64 m, .int .i64 0, .map (some (w.heap.size + 2))] 249)).alloc (.cells #[.string s] 9) = V at *
  generalize hn : w.heap.size = n at *
  have hsz := Lib.size_eq s
  refine Mk.range_law (gf := 169) (lb := #[.pointer (some ⟨n + 4, 0, none⟩)]) rfl (enters_of Tryz.func169 (by kernel_rfl) rfl)
    (ins_iter s (n + 4) V hs htx) KpI.trans (fun W1 l1 o o' _ hl ho => KpI.putObj _ W1 l1 o o' hl ho) (Below.refl _ _) (fun _ => rfl)
    (fun pre W1 => ∃ p h k A D, SoundS s.data.toList m pre p h k A ∧ Holds D A ∧ SoundI n w (.slice a m cap) s m h k D W1)
    (fun c _ W1 => c = .ret ∧ (¬ Pl.Spec s.data.toList m 0 0 (fun _ => none)) ∧ SoundX n w W1)
    (fun s X Y row hs hgr hr => by
      obtain ⟨p, h, k, A, D, h1, h2, h3⟩ := hs
      exact ⟨p, h, k, A, D, h1, h2, SoundI.own (B := V.heap.size) (by omega) () X Y row h3 hgr hr⟩)
    (fun c s X Y row hs hgr hr => by
      obtain ⟨h1, h2, h3⟩ := hs
      exact ⟨h1, h2, SoundX.own (B := V.heap.size) (by omega) () X Y row h3 hgr hr⟩)
    ⟨0, 0, 0, fun _ => none, .map [], ⟨⟨_, InsInv.start _⟩, Iff.rfl, by omega, by omega⟩, Holds.start, hV0⟩
    (fun x a' W1 => ∃ Bx, n + 4 < Bx ∧ Row W1 Bx 254 [.int .u8 x.1.op, .int .i64 x.1.at_, .int .i64 x.1.next, .int .i64 x.1.first, .int .i64 x.1.second] ∧ a' = soundAct a m cap s n Bx x)
    (fun x a' s X Y row hs hgr hr => by
      obtain ⟨Bx, h1, h2, h3⟩ := hs
      exact ⟨Bx, h1, Row.own V.heap.size _ _ _ () X Y row h2 hgr hr, h3⟩) ?assign ?body ?done ?stop
  case assign =>
    rintro l1 pre ⟨i, ok⟩ post W1 K _ hi hK
    have hsz5 : n + 5 ≤ W1.heap.size := by obtain ⟨_, _, _, _, _, _, _, h⟩ := hi; exact h.size
    unfold encI insV
    gi_wp2
    have hb := (Below.refl _ W1).alloc (Nat.le_refl _) (.cells #[.int .u8 i.op, .int .i64 i.at_, .int .i64 i.next, .int .i64 i.first, .int .i64 i.second] 254)
    refine hK _ _ (keepsBelow _ hb) (KpI.below (by omega) hb) ?_ ⟨W1.heap.size, by omega, Row.new W1 254 _, rfl⟩
    obtain ⟨p, h, k, A, D, h1, h2, h3⟩ := hi
    exact ⟨p, h, k, A, D, h1, h2, SoundI.own (B := n + 5) (Nat.le_refl _) () W1 _ none h3 (below_grown hb) (fun r e => by cases e)⟩
  case body =>
    rintro l1 pre x post a' W1 hL ⟨p, h, k, A, D, hS, hA, hI⟩ ⟨Bx, hBx, hbx, rfl⟩
    have hsI := hI.size
    have hT0 : Calld n W1 W1 := Turned.refl _ _
    obtain ⟨hp, ⟨hw, rfl, g, hI2⟩ | ⟨hw, rfl⟩⟩ := hS.cut hL
    · have hst := (Pl.spec_step (m := m) (h := h) (A := A) hp)
      obtain ⟨h1, h8⟩ := whole_op hw
      have hF := first_le s.data.toList p
      have hnx := Pl.next_le hw
      have hgt := Pl.next_gt hw
      have hat : (Pl.mkIns s.data.toList p).at_ = p := rfl
      have hop : (Pl.mkIns s.data.toList p).op = Pl.opAt s.data.toList p := rfl
      rw [← hop] at hst
      clear hop
      generalize hgi : Pl.mkIns s.data.toList p = i at *
      have HS := hide hS
      have HST := hide hst
      have HI := hide hI
      have HI2 := hide hI2
      have HA := hide hA
      have HW := hide hw
      have HBX := hide hbx
      clear hS hst hI2 hA hL hw
      obtain ⟨d0, d1, d2, d3, d4⟩ := hbx.cells5
      have hpl : p ≤ 16777216 := by omega
      have hnx' : i.next ≤ 8388608 := by omega
      have HAT := hide hat
      have CA := hide (arrive_any (n + 3) (n + 2) k m h i.at_ D A W1 hI.walk hI.map (unhide HA) (by rw [hat]; exact hpl) (by omega))
      have HSZ := hide hsz
      clear hI hbx hsz hnx hgi hat
      unfold soundAct insV
      simp only
      gi_wp2_with fail
      refine ⟨trivial, (CallsIn.inRound l1 (callsIn_wide.2 (unhide CA))).mono ?_⟩
      rintro e W2 ⟨⟨r1, rfl, k1⟩, hm2, hg2⟩
      rw [unhide HAT] at k1 hm2
      have HWK2 := hide ((unhide HI).walk.grown hg2 (fun e => by have := Option.some.inj e; omega))
      have hT2 : Calld n W1 W2 := (Turned.ofGrown hg2).mono (fun k e => .inl (Option.some.inj e))
      have HT2 := hide hT2
      have HM2 := hide hm2
      clear hm2 hg2 d0 d1 d2 d3 d4 CA
      cases r1 with
      | false =>
        have HN : Hid (¬ Pl.Spec s.data.toList m 0 0 (fun _ => none)) := by
          show ¬ _
          rw [(unhide HS).spec, unhide HST]
          rintro ⟨q, _⟩
          have := k1.2 q; cases this
        obtain ⟨c1, f1⟩ := hT2.res (unhide HI)
        have HX := hide (soundLeave (l := l1) hT2 (unhide HI))
        clear hT2 k1
        gi_wp2_with fail
        refine ⟨trivial, ?_⟩
        gi_wp2_with fail
        refine ⟨trivial, ?_⟩
        gi_wp2_with fail
        exact ⟨hVs ▸ (unhide HX).1, (unhide HX).2.1, rfl, unhide HN, (unhide HX).2.2⟩
      | true =>
        have hag := hide (k1.1 rfl)
        clear k1
        have hbx2 := hT2.row (unhide HBX) (by omega)
        obtain ⟨d0, d1, d2, d3, d4⟩ := hbx2.cells5
        have CN := hide (mayName_any (n + 3) (n + 2) m h i W2 (unhide HWK2) h1 h8)
        have HBX2 := hide hbx2
        clear hT2 hbx2
        gi_wp2_with fail
        refine ⟨trivial, (CallsIn.inRound l1 (callsIn_wide.2 (unhide CN))).mono ?_⟩
        rintro e W3 ⟨⟨r2, rfl, k2⟩, hb3⟩
        have hT3 : Calld n W1 W3 := (unhide HT2).trans (Turned.ofBelow hb3)
        have HT3 := hide hT3
        have HM3 : Hid (Mw W3 (n + 2) k (D.del (kI p))) := (unhide HM2).kept (below_grown hb3) (by simp)
        have hbx3 := (unhide HBX2).later hb3
        have hwalk3 := (unhide HWK2).later hb3
        clear hb3 d0 d1 d2 d3 d4 CN HM2 HBX2 HWK2 HT2
        cases r2 with
        | false =>
          have HN : Hid (¬ Pl.Spec s.data.toList m 0 0 (fun _ => none)) := by
            show ¬ _
            rw [(unhide HS).spec, unhide HST]
            rintro ⟨_, _, q, _⟩
            have := k2.2 q; cases this
          obtain ⟨c1, f1⟩ := hT3.res (unhide HI)
          have HX := hide (soundLeave (l := l1) hT3 (unhide HI))
          clear hT3 k2 hbx3 hwalk3
          gi_wp2_with fail
          refine ⟨trivial, ?_⟩
          gi_wp2_with fail
          exact ⟨hVs ▸ (unhide HX).1, (unhide HX).2.1, rfl, unhide HN, (unhide HX).2.2⟩
        | true =>
          have hok := hide (k2.1 rfl)
          clear k2
          obtain ⟨d0, d1, d2, d3, d4⟩ := hbx3.cells5
          have HWK3 := hide hwalk3
          by_cases htk : Pl.taken i.op ≤ h
          · have CS := hide (step_on (n + 3) (n + 2) k m h i _ (Pl.del A p) W3 hwalk3 h1 h8 (unhide HS).h16 htk hnx' hF (unhide HM3) ((unhide HA).del p) (by have := (unhide HS).le; omega) (by omega))
            have HTK := hide htk
            clear hT3 hbx3 hwalk3 htk
            gi_wp2_with fail
            refine ⟨trivial, (CallsIn.inRound l1 (callsIn_wide.2 (unhide CS))).mono ?_⟩
            rintro e W4 ⟨r3, rfl, hP⟩
            have hT4 : Calld n W1 W4 := (unhide HT3).trans (hP.kept.mono (fun k e => by omega))
            clear d0 d1 d2 d3 d4 CS
            cases r3 with
            | false =>
              have HN : Hid (¬ Pl.Spec s.data.toList m 0 0 (fun _ => none)) := by
                show ¬ _
                rw [(unhide HS).spec, unhide HST]
                rintro ⟨_, _, _, _, q1, q2, _⟩
                have := hP.ok.2 ⟨q1, q2⟩; cases this
              obtain ⟨c1, f1⟩ := hT4.res (unhide HI)
              have HX := hide (soundLeave (l := l1) hT4 (unhide HI))
              clear hT4 hP
              gi_wp2_with fail
              exact ⟨hVs ▸ (unhide HX).1, (unhide HX).2.1, rfl, unhide HN, (unhide HX).2.2⟩
            | true =>
              have HG : Hid (∃ p h k A D, SoundS s.data.toList m (pre ++ [(i, true)]) p h k A ∧ Holds D A ∧ SoundI n w (.slice a m cap) s m h k D W4) := by
                obtain ⟨q1, q2⟩ := hP.ok.1 rfl
                obtain ⟨o1, D', o2, o3⟩ := hP.on rfl
                have hI := unhide HI
                have hS := unhide HS
                refine ⟨i.next, Pl.rise i.op h, k + 1, Pl.onward A i h, D', ⟨⟨g, unhide HI2⟩, hS.spec.trans ((unhide HST).trans ⟨fun e => e.2.2.2.2.2.2, fun e => ⟨unhide hag, unhide HW, unhide hok, unhide HTK, q1, q2, e⟩⟩), q1, by have := hS.le; omega⟩, ?_,
                  hT4.row hI.plan (by omega), hT4.row hI.res (by omega), o2, o1, hT4.below hI.below (by omega) (fun k e => by omega), Nat.le_trans hsI hT4.size⟩
                unfold Pl.onward
                rw [unhide HAT]
                exact o3
              have HK : Hid (KeepsFrom (n + 5) W1 W4 ∧ KpI (n + 4) l1 W1 W4) := ⟨Inner.keeps (hT4.mono (fun k e => .inr e)), Inner.kp (hT4.mono (fun k e => .inr e)) (unhide HI)⟩
              clear hT4 hP
              gi_wp2_with fail
              exact ⟨hVs ▸ (unhide HK).1, (unhide HK).2, unhide HG⟩
          · have CS := hide (step_low (n + 3) (n + 2) m h i W3 hwalk3 h1 h8 (by omega))
            have HN : Hid (¬ Pl.Spec s.data.toList m 0 0 (fun _ => none)) := by
              show ¬ _
              rw [(unhide HS).spec, unhide HST]
              rintro ⟨_, _, _, q, _⟩
              exact htk q
            clear hT3 hbx3 hwalk3 htk
            gi_wp2_with fail
            refine ⟨trivial, (CallsIn.inRound l1 (callsIn_wide.2 (unhide CS))).mono ?_⟩
            rintro e W4 ⟨rfl, hb4⟩
            have hT4 : Calld n W1 W4 := (unhide HT3).trans (Turned.ofBelow hb4)
            obtain ⟨c1, f1⟩ := hT4.res (unhide HI)
            have HX := hide (soundLeave (l := l1) hT4 (unhide HI))
            clear hT4 hb4 d0 d1 d2 d3 d4 CS
            gi_wp2_with fail
            exact ⟨hVs ▸ (unhide HX).1, (unhide HX).2.1, rfl, unhide HN, (unhide HX).2.2⟩
    · have HN : Hid (¬ Pl.Spec s.data.toList m 0 0 (fun _ => none)) := by
        show ¬ _
        rw [hS.spec, Pl.spec_step hp]
        exact fun e => hw e.2.1
      obtain ⟨c1, f1⟩ := hT0.res hI
      have HX := hide (soundLeave (l := l1) hT0 hI)
      clear hS hI hA hL hw hT0 hbx hsz
      unfold soundAct insV
      simp only
      gi_wp2_with fail
      refine ⟨trivial, ?_⟩
      gi_wp2_with fail
      refine ⟨trivial, ?_⟩
      gi_wp2_with fail
      refine ⟨trivial, ?_⟩
      gi_wp2_with fail
      exact ⟨hVs ▸ (unhide HX).1, (unhide HX).2.1, rfl, unhide HN, (unhide HX).2.2⟩
  case done =>
    rintro Dd W1 hD ⟨p, h, k, A, D, hS, hA, hI⟩ hK
    have hsI := hI.size
    obtain ⟨f, hInv⟩ := hS.inv
    have hpe : ¬ p < s.data.toList.length := by
      intro hp
      by_cases hw : Pl.whole s.data.toList p
      · obtain ⟨g, h1, h2⟩ := hInv.step hp hw
        have := congrArg List.length h1
        simp at this
      · have h1 := hInv.bad hp hw
        have := congrArg List.length h1
        simp at this
    have hps : p = s.size := by have := hInv.le; omega
    have hsp := (Pl.spec_end (m := m) (h := h) (A := A) hpe)
    rw [← hS.spec] at hsp
    have HSP := hide hsp
    have c1 := hI.plan.cell 1 (by simp)
    simp only [List.getElem_cons_zero, List.getElem_cons_succ] at c1
    have CA := hide (arrive_any (n + 3) (n + 2) k m h p D A W1 hI.walk hI.map hA (by omega) (by omega))
    have HI := hide hI
    have HA := hide hA
    have HPS := hide hps
    rw [hps] at CA
    clear hS hInv hpe hsp hI hA hsz hps
    gi_wp2_with fail
    refine ⟨trivial, (callsIn_wide.2 (unhide CA)).mono ?_⟩
    rintro e W2 ⟨⟨r1, rfl, k1⟩, hm2, hg2⟩
    have hI := unhide HI
    have hwk := hI.walk.grown hg2 (fun e => by have := Option.some.inj e; omega)
    have w1 := hwk.cell 1 (by simp)
    have w2 := hwk.cell 2 (by simp)
    simp only [List.getElem_cons_zero, List.getElem_cons_succ] at w1 w2
    have hres := hI.res.grown hg2 (fun e => by have := Option.some.inj e; omega)
    have r0 := hres.cell 0 (by simp)
    simp only [List.getElem_cons_zero] at r0
    have f0 := hres.frozen 0
    have hlen := fun ty => hm2.len (t := 247) (e := 3) Tryz.underlying247 ty
    have hK2 : W2.heap[Dd]? = some (.deferred (some [])) := (hg2.block Dd (Array.getElem?_eq_some_iff.1 hK).1 (fun e => by have := Option.some.inj e; omega)).trans hK
    have hb2 : Below n w W2 := hI.below.trans ⟨hg2.os, hg2.tape, hg2.output, hg2.size, fun k hk => hg2.block k (by omega) (fun e => by have := Option.some.inj e; omega)⟩
    have hem := ((unhide HA).del p).empty (unhide HPS ▸ hm2)
    rw [unhide HPS] at hem
    have HE := hide hem
    have HR := hide hres
    have HB := hide hb2
    have HK2 := hide hK2
    clear hI hwk hres hm2 hg2 hem hb2 hK2 c1 CA
    generalize Maps.size (D.del (kI s.size)) = z at *
    have HF : Hid (∀ R : Bool, Row ((W2.setCell ⟨n + 1, 0, none⟩ (.bool R)).putObj Dd (.deferred none)) (n + 1) 4 [.bool R] ∧ (W2.setCell ⟨n + 1, 0, none⟩ (.bool R)).heap[Dd]? = some (.deferred (some [])) ∧ Below n w ((W2.setCell ⟨n + 1, 0, none⟩ (.bool R)).putObj Dd (.deferred none))) := by
      intro R
      have q0 : Row (W2.setCell ⟨n + 1, 0, none⟩ (.bool R)) (n + 1) 4 [.bool R] := (unhide HR).set 0 _
      refine ⟨(World.putObj_heap_other (by omega)).trans q0, (Below.heap_setCell _ _ _ _ (by simp; omega)).trans (unhide HK2), ?_⟩
      have hb1 : Below n w (W2.setCell ⟨n + 1, 0, none⟩ (.bool R)) := (unhide HB).setCell (p := ⟨n + 1, 0, none⟩) (by simp) _
      exact hb1.trans ((Below.refl _ _).grown (grownBy_putObj' _ Dd _) (by have := q0.lt; omega) (fun k e => by cases e; omega))
    have HL : Hid (∀ R : Bool, (R = true ↔ r1 = true ∧ h = 0 ∧ z = 0) → (R = true ↔ Pl.Spec s.data.toList m 0 0 (fun _ => none))) := by
      intro R hR
      rw [hR, k1, unhide HSP, unhide HPS, unhide HE]
      refine ⟨fun ⟨q1, q2, q3⟩ => ⟨q1, q2, fun q hq => ?_⟩, fun ⟨q1, q2, q3⟩ => ⟨q1, q2, fun q => ?_⟩⟩
      · have := q3 q
        unfold Pl.del at this
        rwa [if_neg hq] at this
      · unfold Pl.del
        split
        · rfl
        · rename_i hq; exact q3 q hq
    clear HE HSP HI HA HR HB HK2 hK k1
    cases r1 with
    | false =>
      gi_wp2_with fail
      refine ⟨by simp, .inl ⟨_, _, rfl, run_takeDeferred (unhide HF false).2.1, ?_⟩⟩
      have c0 := (unhide HF false).1.cell 0 (by simp)
      simp only [List.getElem_cons_zero] at c0
      refine ⟨.bool false, ?_, ⟨false, rfl, unhide HL false (by simp)⟩, by rw [hn]; exact (unhide HF false).2.2⟩
      simp [results, Tryz.results81, go_sem, c0]
    | true =>
      by_cases h0 : h = 0
      · have H0 := hide h0
        have b0 : ((h : Int) == 0) = true := by rw [beq_iff_eq]; omega
        by_cases hz : z = 0
        · have HZ := hide hz
          have bz : ((z : Int) == 0) = true := by rw [beq_iff_eq]; omega
          gi_wp2_with fail
          refine ⟨by simp, .inl ⟨_, _, rfl, run_takeDeferred (unhide HF true).2.1, ?_⟩⟩
          have c0 := (unhide HF true).1.cell 0 (by simp)
          simp only [List.getElem_cons_zero] at c0
          refine ⟨.bool true, ?_, ⟨true, rfl, unhide HL true (by simp [unhide H0, unhide HZ])⟩, by rw [hn]; exact (unhide HF true).2.2⟩
          simp [results, Tryz.results81, go_sem, c0]
        · have HZ := hide hz
          have bz : ((z : Int) == 0) = false := by rw [beq_eq_false_iff_ne]; omega
          gi_wp2_with fail
          refine ⟨by simp, .inl ⟨_, _, rfl, run_takeDeferred (unhide HF false).2.1, ?_⟩⟩
          have c0 := (unhide HF false).1.cell 0 (by simp)
          simp only [List.getElem_cons_zero] at c0
          refine ⟨.bool false, ?_, ⟨false, rfl, unhide HL false (by simpa using fun _ => unhide HZ)⟩, by rw [hn]; exact (unhide HF false).2.2⟩
          simp [results, Tryz.results81, go_sem, c0]
      · have H0 := hide h0
        have b0 : ((h : Int) == 0) = false := by rw [beq_eq_false_iff_ne]; omega
        gi_wp2_with fail
        refine ⟨by simp, .inl ⟨_, _, rfl, run_takeDeferred (unhide HF false).2.1, ?_⟩⟩
        have c0 := (unhide HF false).1.cell 0 (by simp)
        simp only [List.getElem_cons_zero] at c0
        refine ⟨.bool false, ?_, ⟨false, rfl, unhide HL false (by simpa using fun e => absurd e (unhide H0))⟩, by rw [hn]; exact (unhide HF false).2.2⟩
        simp [results, Tryz.results81, go_sem, c0]
  case stop =>
    rintro D c pre post W1 hD hL ⟨rfl, hp, hX⟩ hK
    have HP := hide hp
    have hD2 : ∀ o', Below n W1 (W1.putObj D o') := fun o' => (Below.refl _ W1).grown (grownBy_putObj' W1 D o') (by have := hX.res.lt; omega) (fun k e => by cases e; omega)
    have s0 : Row (W1.putObj D (.deferred none)) (n + 1) _ _ := (World.putObj_heap_other (by omega)).trans hX.res
    gi_wp2_with fail
    refine ⟨by simp, .inl ⟨_, _, rfl, run_takeDeferred hK, ?_⟩⟩
    refine ⟨.bool false, ?_, ⟨false, rfl, by simpa using unhide HP⟩, by rw [hn]; exact hX.below.trans (hD2 _)⟩
    have c0 := s0.cell 0 (by simp)
    simp only [List.getElem_cons_zero] at c0
    simp [results, Tryz.results81, go_sem, c0]
end Go.Proofs.YtjelacjggijmfaaGreatDoor
