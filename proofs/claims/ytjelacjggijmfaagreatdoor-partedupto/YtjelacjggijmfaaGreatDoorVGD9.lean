/-
  The reader: a text is read.
-/
import Derived.Test.YtjelacjggijmfaaGreatDoorVI2
import Derived.Sort.QuietIn
namespace Go.Proofs.YtjelacjggijmfaaGreatDoor
open Go.RowKit Go.Shelf Go.MapKept Go.ChangeMaps Go.Maps
attribute [local go_sem] Oper.semAt_some

def readAct (rd : Nat) (t : Pl.Bs) (n Bx : Nat) (x : Mk.Ln × Nat) : Act := { tmps := #[.pointer (some ⟨rd, 0, none⟩), .string ⟨t.toArray⟩, .pointer (some ⟨n, 0, none⟩), undef, .pointer (some ⟨n + 1, 0, none⟩), .pointer (some ⟨n + 2, 0, none⟩), .pointer (some ⟨n + 3, 0, none⟩),
  .pointer (some ⟨Bx, 0, none⟩), .int .i64 x.2, undef, .string ⟨t.toArray⟩, .func (.func 119) #[] #[.pointer (some ⟨n + 4, 0, none⟩)], lnV x.1, .int .i64 x.2, undef, undef, undef, undef, undef, undef, undef, undef, undef, undef, undef, undef, undef, undef, undef, undef, undef, undef, undef, undef, undef, undef, undef, undef, undef, undef, undef, undef, undef, undef, undef, undef, undef, undef, undef, undef, undef, undef], defers := [] }
/-- Between two lines: what was read, what is left. -/
structure ReS (M : Nat) (rec : St → Pl.Bs → Nat × Nat × St) (fs : List Pl.File) (R : Nat × Nat × St) (s : St) (k : Nat) (L : List (Mk.Ln × Nat)) (n : Nat) (sj : St) (kj : Nat) (op : Option Nat) : Prop where
  ok : Ok sj kj
  le : kj + (100 - sj.inc) * M ≤ k + (100 - s.inc) * M + n
  opn : sj.opn = s.opn
  opl : ∀ i, op = some i → i < sj.rules.length
  eq : R = linesF rec fs (L.drop n) sj op
section
variable {w : World} {F : Foot} {c : Ad} {rb : Nat → Nat} {s : St} {bf bi : Nat} {ve : Value} {ef : List Pl.Eff} {fs : List Pl.File} {clock : Int} {M o k : Nat} {rec : St → Pl.Bs → Nat × Nat × St}
theorem ReS.err {R : Nat × Nat × St} {L : List (Mk.Ln × Nat)} {n kj : Nat} {sj : St} {op : Option Nat} (h : ReS M rec fs R s k L n sj kj op) {x : Mk.Ln × Nat} {post : List (Mk.Ln × Nat)} (hd : L.drop n = x :: post) (hx : x.2 ≠ 0) : R = (x.2, x.1.number, sj) := by
  have := h.eq
  rw [hd, linesF, if_pos hx] at this
  exact this
theorem ReS.line {R : Nat × Nat × St} {L : List (Mk.Ln × Nat)} {n kj : Nat} {sj : St} {op : Option Nat} (h : ReS M rec fs R s k L n sj kj op) (hro : RecOk M rec) (hf : ∀ p g, Pl.look fs p = some g → g.text.length + 1 ≤ M ∧ g.text.length ≤ 1073741824) {x : Mk.Ln × Nat} {post : List (Mk.Ln × Nat)} (hd : L.drop n = x :: post) (hd2 : L.drop (n + 1) = post) (hx : x.2 = 0) (hl : x.1.right.length ≤ 1073741824) :
    ((lineF rec fs sj op x.1).1 ≠ 0 → R = ((lineF rec fs sj op x.1).1, (lineF rec fs sj op x.1).2.1, (lineF rec fs sj op x.1).2.2.2)) ∧ ((lineF rec fs sj op x.1).1 = 0 → ∃ k2, ReS M rec fs R s k L (n + 1) (lineF rec fs sj op x.1).2.2.2 k2 (lineF rec fs sj op x.1).2.2.1) := by
  have he := h.eq
  rw [hd, linesF, if_neg (by rw [hx]; simp)] at he
  refine ⟨fun e => ?_, fun e => ?_⟩
  · rw [if_pos e] at he; exact he
  · rw [if_neg (by rw [e]; simp)] at he
    obtain ⟨⟨⟨k2, g1, g2⟩, g3, g4⟩, g5⟩ := lineF_ok hro hf h.ok h.opl hl
    have := h.le
    exact ⟨k2, g1, by omega, g3.trans h.opn, g5, by rw [hd2]; exact he⟩
/-- What a round leaves alone. -/
def Way (B l : Nat) (X Y : World) : Prop := KeepsFrom B X Y ∧ KpA l X Y
theorem Way.trans {B l : Nat} {X Y Z : World} (h : Way B l X Y) (k : Way B l Y Z) : Way B l X Z := ⟨h.1.trans k.1, h.2.trans k.2⟩
theorem Way.fr {B l : Nat} {X Y : World} {G G' : Foot} {sj : St} {rb' : Nat → Nat} (h : RdM X G c rb' sj) (hE : En X G c.bx bf bi ve ef fs clock) (f : Fr G G' X Y) (h1 : c.nm < B) (h2 : c.bt < B) (h3 : c.pb < B) (hl : B ≤ l) : Way B l X Y :=
  ⟨h.keeps f h1 h2 h3, h.kpa f (fun _ => (hE.fr f).glob) (by omega) (by omega) (by omega)⟩
theorem Way.set {B l b : Nat} {X : World} {t : TypeId} {v : Value} (h : Row X b t [v]) (ht : t ≠ 234) (hb : 0 < b) (u : Value) : Way B l X (X.setCell ⟨b, 0, none⟩ u) := ⟨keepsSet h u, KpA.setCell h ht hb u⟩
theorem Way.below {B l : Nat} {X Y : World} (hb : Below X.heap.size X Y) : Way B l X Y := ⟨keepsBelow _ hb, KpA.below hb⟩
theorem Way.leave {B l : Nat} {X : World} {G : Foot} {rb' : Nat → Nat} {sj : St} {v3 : Value} {er num : Nat} (h : ReM w F c G rb' sj v3 er num X) (hg : 0 < w.heap.size) (e2 n2 : Nat) : Way B l X ((X.setCell ⟨w.heap.size + 1, 0, none⟩ (.int .i64 (e2 : Int))).setCell ⟨w.heap.size + 2, 0, none⟩ (.int .i64 (n2 : Int))) :=
  (Way.set h.r1 (by decide) (by omega) _).trans (Way.set (h.r2.other (by omega) 0 (.int .i64 (e2 : Int))) (by decide) (by omega) _)
theorem Way.open {B l : Nat} {X : World} {G : Foot} {rb' : Nat → Nat} {sj : St} {v3 : Value} {er num : Nat} (h : ReM w F c G rb' sj v3 er num X) (hg : 0 < w.heap.size) (u : Value) : Way B l X (X.setCell ⟨w.heap.size + 3, 0, none⟩ u) := Way.set h.r3 (by decide) (by omega) _
set_option maxHeartbeats 8000000 in
set_option maxRecDepth 20000 in
theorem read_in (hrec : o ≠ 3 → RecC c bf bi ve ef fs clock M rec (o + 1)) (hro : RecOk M rec) (hf : ∀ p g, Pl.look fs p = some g → g.text.length + 1 ≤ M ∧ g.text.length ≤ 1073741824) (t : Pl.Bs) (h : RdM w F c rb s) (hE : En w F c.bx bf bi ve ef fs clock) (hk : Ok s k) (ho : s.opn = o) (ho3 : o ≤ 3) (ht1 : t.length + 1 ≤ M) (ht : t.length ≤ 1073741824) (hkk : k + (100 - s.inc) * M + M ≤ 4294967296) (R : Nat × Nat × St) (hR : R = linesF rec fs (Mk.allF (Mk.joined t)) s none) :
    CallsIn Fence.wide 9 Tryz.prog 89 #[.pointer (some ⟨c.rd, 0, none⟩), .string ⟨t.toArray⟩] w fun e w' => ∃ G rb', e = .returned (.tuple #[.int .i64 (R.1 : Int), .int .i64 (R.2.1 : Int)]) ∧ RdM w' G c rb' R.2.2 ∧ Fr F G w w' := by
  have hmix : Tryz.prog.follows .mixedOrders = true := by kernel_rfl
  obtain ⟨q0, q1, q2, q3⟩ := readStart t h
  have hll := lines_len t
  have hS0 : ReS M rec fs R s k (Mk.allF (Mk.joined t)) 0 s k none := ⟨hk, by omega, rfl, fun i e => (by cases e), by rw [List.drop_zero]; exact hR⟩
  have n1 := h.lt h.fnm
  have n2 := h.lt h.fbt
  have n3 := h.lt h.fpb
  have hgl := glob_lt hE.glob
  refine callsIn_of_wp_marks Tryz.func89 rfl trivial ?_
  simp only [Tryz.ntmps89, List.size_toArray, List.length_cons, List.length_nil, Nat.reduceAdd, Nat.reduceSub, Array.replicate_succ, Array.replicate_zero, List.push_toArray, List.append_toArray, List.nil_append, List.cons_append]
  gi_wp2_with fail
  refine ⟨trivial, (callsIn_wide.2 (all_any _ _)).mono ?_⟩
  rintro e w2 ⟨rfl, rfl⟩
  gi_wp2_with fail
  unfold readW at q0 q1 q2 q3
  generalize ((((w.alloc (.cells #[.pointer (some ⟨c.rd, 0, none⟩)] 264)).alloc (.cells #[.int .i64 0] 24)).alloc (.cells #[.int .i64 0] 3)).alloc (.cells #[.pointer none] 265)).alloc (.cells #[.string ⟨t.toArray⟩] 9) = V at *
  have htx : V.cell? ⟨w.heap.size + 4, 0, none⟩ = some (.string ⟨t.toArray⟩) := q1.cell? (i := 0) rfl
  have hgV := (hE.later q3).glob
  refine Mk.range_law_at (gf := 119) (lb := #[.pointer (some ⟨w.heap.size + 4, 0, none⟩)]) rfl (enters_of Tryz.func119 (by kernel_rfl) rfl)
    (all_iter t (w.heap.size + 4) V ht hgV htx) KpA.trans (fun W1 l1 o o' _ hl ho => KpA.putObj W1 l1 o o' hl ho) (Below.refl _ _) (fun _ => rfl)
    (fun pre W1 => ∃ G rb' sj kj op, ReM w F c G rb' sj (opV rb' op) 0 0 W1 ∧ ReS M rec fs R s k (Mk.allF (Mk.joined t)) pre.length sj kj op)
    (fun cc _ W1 => cc = .ret ∧ ∃ G rb' v3, ReM w F c G rb' R.2.2 v3 R.1 R.2.1 W1)
    (fun pre X Y row hs hgr hr => by
      obtain ⟨G, rb', sj, kj, op, h1, h2⟩ := hs
      exact ⟨G, rb', sj, kj, op, ReM.own (B := V.heap.size) (by omega) (by omega) (by omega) (by omega) () X Y row h1 hgr hr, h2⟩)
    (fun cc pre X Y row hs hgr hr => by
      obtain ⟨h1, G, rb', v3, h2⟩ := hs
      exact ⟨h1, G, rb', v3, ReM.own (B := V.heap.size) (by omega) (by omega) (by omega) (by omega) () X Y row h2 hgr hr⟩)
    ⟨F, rb, s, k, none, q0, hS0⟩
    (fun x a' W1 => ∃ Bx, w.heap.size + 3 < Bx ∧ Row W1 Bx 164 [.int .i64 x.1.number, .int .i64 x.1.kind, .string ⟨x.1.left.toArray⟩, .string ⟨x.1.right.toArray⟩] ∧ a' = readAct c.rd t w.heap.size Bx x)
    (fun x a' s X Y row hs hgr hr => by
      obtain ⟨Bx, h1, h2, h3⟩ := hs
      exact ⟨Bx, h1, Row.own V.heap.size _ _ _ () X Y row h2 hgr hr, h3⟩) ?assign ?body ?done ?stop
  case assign =>
    rintro pre ⟨⟨num, kd, L, Rr⟩, er⟩ post W1 K _ hi hK
    have hsz5 : w.heap.size + 3 < W1.heap.size := by
      obtain ⟨_, _, _, _, _, h1, _⟩ := hi
      exact h1.r3.lt
    unfold encA lnV
    gi_wp2
    have hb := (Below.refl _ W1).alloc (Nat.le_refl _) (.cells #[.int .i64 num, .int .i64 kd, .string ⟨L.toArray⟩, .string ⟨Rr.toArray⟩] 164)
    refine hK _ _ (keepsBelow _ hb) (KpA.below hb) ?_ ⟨W1.heap.size, hsz5, Row.new W1 164 _, rfl⟩
    obtain ⟨G, rb', sj, kj, op, h1, h2⟩ := hi
    exact ⟨G, rb', sj, kj, op, h1.later hb, h2⟩
  case body =>
    rintro pre ⟨⟨num, kd, L, Rr⟩, er⟩ post a' W1 hL ⟨G, rb', sj, kj, op, hM, hS⟩ ⟨Bx, hBx, hbx, rfl⟩
    simp only at hbx
    have hLn := Mk.all_len (t := t) (x := (⟨num, kd, L, Rr⟩, er)) (by rw [hL]; simp)
    simp only at hLn
    obtain ⟨hd1, hd2⟩ := rest_drop hL
    rw [List.length_append, List.length_cons, List.length_nil] at hd2
    have hpl : pre.length + 1 ≤ M := by
      have := congrArg List.length hL
      rw [List.length_append, List.length_cons] at this
      omega
    have hkb : kj + (100 - sj.inc) * M ≤ 4294967295 := by have := hS.le; omega
    have hEn := hE.fr hM.fr
    have hGB : G Bx = none := hM.mem.alien hbx (by unfold TyR; decide)
    have d0 := hbx.cell? (i := 0) rfl
    have d1 := hbx.cell? (i := 1) rfl
    have d2 := hbx.cell? (i := 2) rfl
    have d3 := hbx.cell? (i := 3) rfl
    have e0 := hM.r0.cell? (i := 0) rfl
    have e1 := hM.r1.cell? (i := 0) rfl
    have e2 := hM.r2.cell? (i := 0) rfl
    have e3 := hM.r3.cell? (i := 0) rfl
    have f1 := hM.r1.frozen 0
    have f2 := hM.r2.frozen 0
    have f3 := hM.r3.frozen 0
    have HM := hide hM
    have HEn := hide hEn
    have HS := hide hS
    have HBX := hide hbx
    have HD1 := hide hd1
    have HD2 := hide hd2
    clear hL hM hEn hS hbx hd1 hd2 hS0 q0 hR
    by_cases her : er = 0
    · have b1 : ((er : Int) != 0) = false := by rw [bne_eq_false_iff_eq]; omega
      have hlr : Rr.length ≤ 1073741824 := by omega
      have hlL : L.length ≤ 1073741824 := by omega
      have HLn := hide ((unhide HS).line hro hf (unhide HD1) (unhide HD2) her hlr)
      have hok := (unhide HS).ok
      have o1 := hok.tl
      have o2 := hok.n64
      have o3 := hok.nl
      clear her
      simp only at HLn
      by_cases k1 : kd = 1
      · have w1 : ((kd : Int) == 1) = true := by rw [beq_iff_eq]; omega
        have hLE : lineF rec fs sj op ⟨num, kd, L, Rr⟩ = ((commandF sj op ⟨num, kd, L, Rr⟩).1, num, op, (commandF sj op ⟨num, kd, L, Rr⟩).2) := by unfold lineF; simp only; rw [if_pos k1]
        rw [hLE] at HLn
        have CC := hide (command_any op ⟨num, kd, L, Rr⟩ (unhide HM).mem (unhide HS).opl (fun name => by have := hok.ol name; omega) (fun r hr => by have := (hok.rs r hr).tl; omega) (fun r hr => by have := hok.cl r hr; omega))
        clear hLE k1
        generalize commandF sj op ⟨num, kd, L, Rr⟩ = rc at *
        obtain ⟨re, rs⟩ := rc
        simp only at HLn CC
        obtain ⟨pv, hpv⟩ : ∃ pv, opV rb' op = .pointer pv := by cases op <;> exact ⟨_, rfl⟩
        unfold lnV at CC
        simp only at CC
        rw [hpv] at e3 CC
        unfold readAct lnV
        simp only
        gi_wp2_with fail
        refine ⟨trivial, (CallsIn.inRound _ (callsIn_wide.2 (unhide CC))).mono ?_⟩
        rintro e W2 ⟨rfl, G2, m2, f2'⟩
        have HM2 := hide ((unhide HM).step m2 f2')
        have HW2 := hide (Way.fr (B := V.heap.size) (l := V.heap.size + 1) (unhide HM).mem (unhide HEn) f2' (by omega) (by omega) (by omega) (by omega))
        obtain ⟨rb2, hrb2⟩ : ∃ rb2, rb2 = rb' := ⟨_, rfl⟩
        rw [← hrb2] at HM2
        clear m2 f2' CC e0 e1 e2 e3 f1 f2 f3 d0 d1 d2 d3
        by_cases hre : re = 0
        · have u1 : ((re : Int) != 0) = false := by rw [bne_eq_false_iff_eq]; omega
          obtain ⟨k2, hS2⟩ := (unhide HLn).2 hre
          have HS2 := hide hS2
          clear hre hS2
          gi_wp2_with fail
          exact ⟨(unhide HW2).1, (unhide HW2).2, G2, rb2, rs, k2, op, unhide HM2, by rw [List.length_append]; exact unhide HS2⟩
        · have u1 : ((re : Int) != 0) = true := by rw [bne_iff_ne]; omega
          have HR2 := hide ((unhide HLn).1 hre)
          have y1 := (unhide HM2).r1.cell? (i := 0) rfl
          have y2 := (unhide HM2).r2.cell? (i := 0) rfl
          have z1 := (unhide HM2).r1.frozen 0
          have z2 := (unhide HM2).r2.frozen 0
          have HX := hide ((unhide HM2).leave re num)
          have HW3 := hide ((unhide HW2).trans (Way.leave (B := V.heap.size) (l := V.heap.size + 1) (unhide HM2) hgl re num))
          clear hre
          gi_wp2_with fail
          exact ⟨(unhide HW3).1, (unhide HW3).2, rfl, G2, rb2, _, by rw [unhide HR2]; exact unhide HX⟩
      · have w1 : ((kd : Int) == 1) = false := by rw [beq_eq_false_iff_ne]; omega
        by_cases k5 : kd = 5
        · have w5 : ((kd : Int) == 5) = true := by rw [beq_iff_eq]; omega
          have hLE : lineF rec fs sj op ⟨num, kd, L, Rr⟩ = ((ruleF sj ⟨num, kd, L, Rr⟩).1, num, (ruleF sj ⟨num, kd, L, Rr⟩).2.1, (ruleF sj ⟨num, kd, L, Rr⟩).2.2) := by unfold lineF; simp only; rw [if_neg k1, if_pos k5]
          rw [hLE] at HLn
          have CC := hide (rule_any ⟨num, kd, L, Rr⟩ kj (unhide HM).mem hok (unhide HEn).glob (unhide HEn).n4 hlL hlr)
          clear hLE k1 k5
          generalize ruleF sj ⟨num, kd, L, Rr⟩ = rc at *
          obtain ⟨re, op2, rs⟩ := rc
          unfold lnV at CC
          simp only at HLn CC
          unfold readAct lnV
          simp only
          gi_wp2_with fail
          refine ⟨trivial, (CallsIn.inRound _ (callsIn_wide.2 (unhide CC))).mono ?_⟩
          rintro e W2 ⟨G2, rb2, rfl, m2, f2'⟩
          have HM1 := hide ((unhide HM).step m2 f2')
          have HM2 := hide ((unhide HM1).open (opV rb2 op2))
          have HW2 := hide ((Way.fr (B := V.heap.size) (l := V.heap.size + 1) (unhide HM).mem (unhide HEn) f2' (by omega) (by omega) (by omega) (by omega)).trans (Way.open (unhide HM1) hgl (opV rb2 op2)))
          have x3 := (unhide HM1).r3.cell? (i := 0) rfl
          have z3 := (unhide HM1).r3.frozen 0
          obtain ⟨pv, hpv⟩ : ∃ pv, opV rb2 op2 = .pointer pv := by cases op2 <;> exact ⟨_, rfl⟩
          rw [hpv] at HM2 HW2
          rw [hpv]
          have HPV := hide hpv
          clear m2 f2' CC e0 e1 e2 e3 f1 f2 f3 d0 d1 d2 d3 hpv
          by_cases hre : re = 0
          · have u1 : ((re : Int) != 0) = false := by rw [bne_eq_false_iff_eq]; omega
            obtain ⟨k2, hS2⟩ := (unhide HLn).2 hre
            have HS2 := hide hS2
            clear hre hS2
            gi_wp2_with fail
            exact ⟨(unhide HW2).1, (unhide HW2).2, G2, rb2, rs, k2, op2, by rw [unhide HPV]; exact unhide HM2, by rw [List.length_append]; exact unhide HS2⟩
          · have u1 : ((re : Int) != 0) = true := by rw [bne_iff_ne]; omega
            have HR2 := hide ((unhide HLn).1 hre)
            have y1 := (unhide HM2).r1.cell? (i := 0) rfl
            have y2 := (unhide HM2).r2.cell? (i := 0) rfl
            have z1 := (unhide HM2).r1.frozen 0
            have z2 := (unhide HM2).r2.frozen 0
            have HX := hide ((unhide HM2).leave re num)
            have HW3 := hide ((unhide HW2).trans (Way.leave (B := V.heap.size) (l := V.heap.size + 1) (unhide HM2) hgl re num))
            clear hre
            gi_wp2_with fail
            exact ⟨(unhide HW3).1, (unhide HW3).2, rfl, G2, rb2, _, by rw [unhide HR2]; exact unhide HX⟩
        · have w5 : ((kd : Int) == 5) = false := by rw [beq_eq_false_iff_ne]; omega
          have HM1 := hide ((unhide HM).open (.pointer none))
          have HE1 := hide (hE.fr (unhide HM1).fr)
          have HB1 := hide ((unhide HBX).other (show Bx ≠ w.heap.size + 3 by omega) 0 (.pointer none))
          have HW1 := hide (Way.open (B := V.heap.size) (l := V.heap.size + 1) (unhide HM) hgl (.pointer none))
          have i0 := (unhide HM1).r0.cell? (i := 0) rfl
          have j0 := (unhide HB1).cell? (i := 0) rfl
          have j1 := (unhide HB1).cell? (i := 1) rfl
          have j2 := (unhide HB1).cell? (i := 2) rfl
          have j3 := (unhide HB1).cell? (i := 3) rfl
          obtain ⟨pv, hpv⟩ : ∃ pv, opV rb' op = .pointer pv := by cases op <;> exact ⟨_, rfl⟩
          rw [hpv] at e3
          by_cases k2 : kd = 2
          · have w2 : ((kd : Int) == 2) = true := by rw [beq_iff_eq]; omega
            have hLE : lineF rec fs sj op ⟨num, kd, L, Rr⟩ = ((includeF rec fs sj ⟨num, kd, L, Rr⟩).1, (includeF rec fs sj ⟨num, kd, L, Rr⟩).2.1, none, (includeF rec fs sj ⟨num, kd, L, Rr⟩).2.2) := by unfold lineF; simp only; rw [if_neg k1, if_neg k5, if_pos k2]
            rw [hLE] at HLn
            have CC := hide (include_any hrec hro hf ⟨num, kd, L, Rr⟩ (unhide HM1).mem (unhide HE1) hok ((unhide HS).opn.trans ho) ho3 (by omega) hlr)
            clear hLE k1 k5 k2
            generalize includeF rec fs sj ⟨num, kd, L, Rr⟩ = rc at *
            obtain ⟨re, rn, rs⟩ := rc
            unfold lnV at CC
            simp only at HLn CC
            unfold readAct lnV
            simp only
            gi_wp2_with fail
            refine ⟨trivial, (CallsIn.inRound _ (callsIn_wide.2 (unhide CC))).mono ?_⟩
            rintro e W2 ⟨G2, rb2, rfl, m2, f2'⟩
            have HM2 := hide ((unhide HM1).step m2 f2')
            have HW2 := hide ((unhide HW1).trans (Way.fr (B := V.heap.size) (l := V.heap.size + 1) (unhide HM1).mem (unhide HE1) f2' (by omega) (by omega) (by omega) (by omega)))
            clear m2 f2' CC e0 e1 e2 e3 f1 f2 f3 d0 d1 d2 d3 i0 j0 j1 j2 j3
            by_cases hre : re = 0
            · have u1 : ((re : Int) != 0) = false := by rw [bne_eq_false_iff_eq]; omega
              obtain ⟨k2, hS2⟩ := (unhide HLn).2 hre
              have HS2 := hide hS2
              clear hre hS2
              gi_wp2_with fail
              exact ⟨(unhide HW2).1, (unhide HW2).2, G2, rb2, rs, k2, none, unhide HM2, by rw [List.length_append]; exact unhide HS2⟩
            · have u1 : ((re : Int) != 0) = true := by rw [bne_iff_ne]; omega
              have HR2 := hide ((unhide HLn).1 hre)
              have y1 := (unhide HM2).r1.cell? (i := 0) rfl
              have y2 := (unhide HM2).r2.cell? (i := 0) rfl
              have z1 := (unhide HM2).r1.frozen 0
              have z2 := (unhide HM2).r2.frozen 0
              have HX := hide ((unhide HM2).leave re rn)
              have HW3 := hide ((unhide HW2).trans (Way.leave (B := V.heap.size) (l := V.heap.size + 1) (unhide HM2) hgl re rn))
              clear hre
              gi_wp2_with fail
              exact ⟨(unhide HW3).1, (unhide HW3).2, rfl, G2, rb2, _, by rw [unhide HR2]; exact unhide HX⟩
          · have w2 : ((kd : Int) == 2) = false := by rw [beq_eq_false_iff_ne]; omega
            have hLE : lineF rec fs sj op ⟨num, kd, L, Rr⟩ = ((assignF sj ⟨num, kd, L, Rr⟩).1, num, none, (assignF sj ⟨num, kd, L, Rr⟩).2) := by unfold lineF; simp only; rw [if_neg k1, if_neg k5, if_neg k2]
            rw [hLE] at HLn
            have CC := hide (assign_any ⟨num, kd, L, Rr⟩ (unhide HM1).mem hok.short (by omega) (unhide HE1).glob hlr)
            clear hLE k1 k5 k2
            generalize assignF sj ⟨num, kd, L, Rr⟩ = rc at *
            obtain ⟨re, rs⟩ := rc
            unfold lnV at CC
            simp only at HLn CC
            unfold readAct lnV
            simp only
            gi_wp2_with fail
            refine ⟨trivial, (CallsIn.inRound _ (callsIn_wide.2 (unhide CC))).mono ?_⟩
            rintro e W2 ⟨rfl, m2, f2'⟩
            have HM2 := hide ((unhide HM1).step m2 f2')
            have HW2 := hide ((unhide HW1).trans (Way.fr (B := V.heap.size) (l := V.heap.size + 1) (unhide HM1).mem (unhide HE1) f2' (by omega) (by omega) (by omega) (by omega)))
            obtain ⟨rb2, hrb2⟩ : ∃ rb2, rb2 = rb' := ⟨_, rfl⟩
            obtain ⟨G2, hG2⟩ : ∃ G2, G2 = G := ⟨_, rfl⟩
            rw [← hrb2, ← hG2] at HM2
            clear m2 f2' CC e0 e1 e2 e3 f1 f2 f3 d0 d1 d2 d3 i0 j0 j1 j2 j3
            by_cases hre : re = 0
            · have u1 : ((re : Int) != 0) = false := by rw [bne_eq_false_iff_eq]; omega
              obtain ⟨k2, hS2⟩ := (unhide HLn).2 hre
              have HS2 := hide hS2
              clear hre hS2
              gi_wp2_with fail
              exact ⟨(unhide HW2).1, (unhide HW2).2, G2, rb2, rs, k2, none, unhide HM2, by rw [List.length_append]; exact unhide HS2⟩
            · have u1 : ((re : Int) != 0) = true := by rw [bne_iff_ne]; omega
              have HR2 := hide ((unhide HLn).1 hre)
              have y1 := (unhide HM2).r1.cell? (i := 0) rfl
              have y2 := (unhide HM2).r2.cell? (i := 0) rfl
              have z1 := (unhide HM2).r1.frozen 0
              have z2 := (unhide HM2).r2.frozen 0
              have HX := hide ((unhide HM2).leave re num)
              have HW3 := hide ((unhide HW2).trans (Way.leave (B := V.heap.size) (l := V.heap.size + 1) (unhide HM2) hgl re num))
              clear hre
              gi_wp2_with fail
              exact ⟨(unhide HW3).1, (unhide HW3).2, rfl, G2, rb2, _, by rw [unhide HR2]; exact unhide HX⟩
    · have b1 : ((er : Int) != 0) = true := by rw [bne_iff_ne]; omega
      have HRe := hide ((unhide HS).err (unhide HD1) her)
      have HX := hide (((unhide HM).leave er num).later (Below.refl _ _).drew)
      have HW := hide ((Way.leave (B := V.heap.size) (l := V.heap.size + 1) (unhide HM) hgl er num).trans (Way.below (Below.refl _ _).drew))
      clear her
      unfold readAct lnV
      simp only
      gi_wp2_with fail
      gi_region_o
      all_goals gi_wp2_with fail
      all_goals exact ⟨(unhide HW).1, (unhide HW).2, rfl, G, rb', opV rb' op, by rw [unhide HRe]; exact unhide HX⟩
  case done =>
    rintro D W1 hD ⟨G, rb', sj, kj, op, hM, hS⟩ hK
    have hRe : R = (0, 0, sj) := by
      have := hS.eq
      rw [List.drop_length, linesF] at this
      exact this
    have r1 := hM.r1
    have r2 := hM.r2
    have c1 := r1.cell? (i := 0) rfl
    have c2 := r2.cell? (i := 0) rfl
    have f1 := r1.frozen 0
    have f2 := r2.frozen 0
    have HX := hide (hM.leave 0 0)
    have hne1 : D ≠ w.heap.size + 1 := by omega
    have hne2 : D ≠ w.heap.size + 2 := by omega
    have HK := hide hK
    clear hS hM r1 r2
    gi_wp2_with fail
    have hXZ : ReM w F c G rb' sj (opV rb' op) 0 0 ((W1.setCell ⟨w.heap.size + 1, 0, none⟩ (.int .i64 0)).setCell ⟨w.heap.size + 1 + 1, 0, none⟩ (.int .i64 0)) := unhide HX
    have hKZ : ((W1.setCell ⟨w.heap.size + 1, 0, none⟩ (.int .i64 0)).setCell ⟨w.heap.size + 1 + 1, 0, none⟩ (.int .i64 0)).heap[D]? = some (.deferred (some [])) := by
      rw [Below.heap_setCell _ _ _ _ (by simp only; omega), Below.heap_setCell _ _ _ _ (by simp only; omega)]; exact unhide HK
    generalize ((W1.setCell ⟨w.heap.size + 1, 0, none⟩ (.int .i64 0)).setCell ⟨w.heap.size + 1 + 1, 0, none⟩ (.int .i64 0)) = Z at *
    have hM3 : ReM w F c G rb' sj (opV rb' op) 0 0 (Z.putObj D (.deferred none)) := ReM.own (β := Unit) (B := V.heap.size) (by omega) (by omega) (by omega) (by omega) () Z _ _ hXZ (grownBy_putObj' Z D (.deferred none)) (fun r e => by cases e; exact ⟨by omega, _, hKZ, rfl⟩)
    refine ⟨by simp, .inl ⟨_, _, rfl, run_takeDeferred hKZ, ?_⟩⟩
    rw [hRe]
    refine ⟨_, ?_, G, rb', rfl, hM3.mem, hM3.fr⟩
    have c1 := hM3.r1.cell? (i := 0) rfl
    have c2 := hM3.r2.cell? (i := 0) rfl
    simp [results, Tryz.results89, go_sem, c1, c2]
  case stop =>
    rintro D cc pre post W1 hD hL ⟨rfl, G, rb', v3, hM⟩ hK
    have hM3 : ReM w F c G rb' R.2.2 v3 R.1 R.2.1 (W1.putObj D (.deferred none)) := ReM.own (β := Unit) (B := V.heap.size) (by omega) (by omega) (by omega) (by omega) () W1 _ _ hM (grownBy_putObj' W1 D (.deferred none)) (fun r e => by cases e; exact ⟨by omega, _, hK, rfl⟩)
    gi_wp2_with fail
    refine ⟨by simp, .inl ⟨_, _, rfl, run_takeDeferred hK, ?_⟩⟩
    refine ⟨_, ?_, G, rb', rfl, hM3.mem, hM3.fr⟩
    have c1 := hM3.r1.cell? (i := 0) rfl
    have c2 := hM3.r2.cell? (i := 0) rfl
    simp [results, Tryz.results89, go_sem, c1, c2]
end
end Go.Proofs.YtjelacjggijmfaaGreatDoor
