/- MsgPuts' walk. -/
import Derived.Test.YtlheaicojmjdpaaDoorMsgUnlikeA
import Derived.Test.YtlheaicojmjdpaaDoorRef04f
namespace Go.Proofs.YtlheaicojmjdpaaDoor
set_option maxRecDepth 100000
open Go.RowKit
set_option linter.unusedVariables false

/-- A message in its box. -/
structure One4 (w W : World) (m : PM) (L : Loc) : Prop where
  bm : Blk W w.heap.size 32 (MC m L)
  im0 : In w m L
  tab0 : Tab w
  mods : Mods Nil w W
theorem One4.im {w W : World} {m : PM} {L : Loc} (h : One4 w W m L) : In W m L := h.im0.mods h.mods
theorem One4.tab {w W : World} {m : PM} {L : Loc} (h : One4 w W m L) : Tab W := h.tab0.mods h.mods (fun h => h)
theorem One4.on {w W W' : World} {m : PM} {L : Loc} (h : One4 w W m L) (hm : Mods Nil W W') : One4 w W' m L :=
  ⟨h.bm.mods hm (fun h => h), h.im0, h.tab0, h.mods.trans hm⟩
theorem one4 {w : World} {m : PM} {L : Loc} (hT : Tab w) (im : In w m L) : One4 w (w.alloc (.cells (MC m L) 32)) m L :=
  ⟨Blk.new w _ _, im, hT, (Mods.refl Nil w).alloc _⟩
def PutTo4 (a : PM) (La : Loc) (xa : List UInt8) (qa : Nat) (E : Int) : Prop := ∀ W, Tab W → In W a La → Calls Tryd.prog 15 #[.agg (MC a La)] W fun e w' => ∃ A c, e = .returned (.tuple #[.slice A qa c, .int .i64 E]) ∧ Sl w' A c (bts xa) ∧ Mods Nil W w'
theorem putTo4 {a : PM} {La : Loc} (ho : a.ok) {E : Int} (hc : chk a = E) : Hid (PutTo4 a La (pOut a) (pOut a).length E) := by
  intro W h1 h2
  have := mput_all ho h1 h2
  rw [hc] at this
  exact this
def RPutTo (m : PM) (xa : List UInt8) (E : Int) : Prop := ∀ W A c, Sl W A c (nums m.vec) → Calls Tryd.prog 16 #[.agg (RC m A c)] W fun e w' => e = .returned (.tuple #[.string (strOf xa), .int .i64 E]) ∧ Mods Nil W w'
theorem rputTo {m : PM} (ho : m.ok) {E : Int} (hc : chk m = E) : Hid (RPutTo m (pOut m) E) := by
  intro W A c hs
  rcases chk_kinds m with h | h
  · have hp : pOut m = putOf m := by unfold pOut; rw [if_pos h]
    obtain rfl : E = 0 := hc.symm.trans h
    rw [hp]
    exact rput_any ho (chk_zero.1 h) hs
  · have hp : pOut m = [] := by unfold pOut; rw [if_neg (by rw [h]; decide)]
    obtain rfl : E = 1 := hc.symm.trans h
    rw [hp]
    exact rput_bad ho h

set_option maxHeartbeats 8000000 in
theorem msgPuts_big1 {w : World} {m : PM} {L : Loc} (P0 : Hid (One4 w (w.alloc (.cells (MC m L) 32)) m L)) (hb1 : (300 : Int) < (m.vec.length : Int)) :
    Calls Tryd.prog 4 #[.agg (MC m L)] w fun e w' => e = .returned (.bool true) ∧ Mods Nil w w' := by
  go_enter Tryd.func4, Tryd.ntmps4
  go_wp2_with (go_at_call 9; refine (awake4_any _ P0.out.tab).mono ?_; rintro e w1 ⟨rfl, m1⟩; have p1 := P0.out.on m1; obtain ⟨c0, c1, c2, c3, c4, c5, c6, c7, c8, c9, c10⟩ := p1.bm.mc; have P1 := Lib.hid p1; clear m1 p1)
  go_ret
  exact ⟨rfl, P1.out.mods⟩
set_option maxHeartbeats 8000000 in
theorem msgPuts_big2 {w : World} {m : PM} {L : Loc} (P0 : Hid (One4 w (w.alloc (.cells (MC m L) 32)) m L)) (hb1 : (m.vec.length : Int) ≤ 300) (hb2 : (300 : Int) < (m.body.length : Int)) :
    Calls Tryd.prog 4 #[.agg (MC m L)] w fun e w' => e = .returned (.bool true) ∧ Mods Nil w w' := by
  go_enter Tryd.func4, Tryd.ntmps4
  go_wp2_with (go_at_call 9; refine (awake4_any _ P0.out.tab).mono ?_; rintro e w1 ⟨rfl, m1⟩; have p1 := P0.out.on m1; obtain ⟨c0, c1, c2, c3, c4, c5, c6, c7, c8, c9, c10⟩ := p1.bm.mc; have P1 := Lib.hid p1; clear m1 p1)
  go_ret
  exact ⟨rfl, P1.out.mods⟩
set_option maxHeartbeats 16000000 in
theorem msgPuts_0 {w : World} {m : PM} {L : Loc} (P0 : Hid (One4 w (w.alloc (.cells (MC m L) 32)) m L)) (hb1 : (m.vec.length : Int) ≤ 300) (hb2 : (m.body.length : Int) ≤ 300)
    {xa : List UInt8} {qa : Nat} (HOK : Hid (m.ok)) (HC : Hid (chk m = 0)) (HQA : Hid (xa.length = qa)) (HP : Hid (PutTo4 m L xa qa 0)) (HRP : Hid (RPutTo m xa 0)) (ks1 : (strOf xa).toList = xa) (HG : Hid (∀ W A c, Tab W → Sl W A c (bts xa) → Calls Tryd.prog 11 #[.slice A qa c] W (GotM W m 0))) :
    Calls Tryd.prog 4 #[.agg (MC m L)] w fun e w' => e = .returned (.bool true) ∧ Mods Nil w w' := by
  go_enter Tryd.func4, Tryd.ntmps4
  go_wp2_with (first
    | (go_at_call 9; refine (awake4_any _ P0.out.tab).mono ?_; rintro e w1 ⟨rfl, m1⟩; have p1 := P0.out.on m1; obtain ⟨c0, c1, c2, c3, c4, c5, c6, c7, c8, c9, c10⟩ := p1.bm.mc; have P1 := Lib.hid p1; clear m1 p1)
    | (go_at_call 15; refine (show Calls _ _ #[.agg (MC m L)] _ _ from HP.out _ P1.out.tab P1.out.im).mono ?_; rintro e w2 ⟨A2, e2, rfl, s2, m2⟩; have p2 := P1.out.on m2; clear c0 c1 c2 c3 c4 c5 c6 c7 c8 c9 c10; obtain ⟨c0, c1, c2, c3, c4, c5, c6, c7, c8, c9, c10⟩ := p2.bm.mc; have P2 := Lib.hid p2; have S2 := Lib.hid s2; clear s2 m2 p2)
    | (go_at_call 14; refine (show Calls _ _ #[.agg (MC m L)] _ _ from msgOf_any P2.out.im).mono ?_; rintro e w3 ⟨rfl, m3⟩; have p3 := P2.out.on m3; clear c0 c1 c2 c3 c4 c5 c6 c7 c8 c9 c10; have P3 := Lib.hid p3; have S3 := Lib.hid (S2.out.mods m3 (fun _ _ h => h)); clear m3 p3)
    | (go_at_call 16; refine (HRP.out _ _ _ P3.out.im.v).mono ?_; rintro e w4 ⟨rfl, m4⟩; have P4 := Lib.hid (P3.out.on m4); have S4 := Lib.hid (S3.out.mods m4 (fun _ _ h => h)); clear m4))
  have kx : ∀ W, Mods Nil w4 W → (convert 22 9 (.slice A2 qa e2)).run Tryd.prog W = .ok (.string (strOf xa)) W := fun W h => conv_sl4 HQA.out (S4.out.mods h (fun _ _ h => h))
  have k0 := fun W (h : Mods Nil w4 W) => (P4.out.on h).bm.mc.1
  have k1 := fun W (h : Mods Nil w4 W) => (P4.out.on h).bm.mc.2.1
  have k2 := fun W (h : Mods Nil w4 W) => (P4.out.on h).bm.mc.2.2.1
  have k3 := fun W (h : Mods Nil w4 W) => (P4.out.on h).bm.mc.2.2.2.1
  have k4 := fun W (h : Mods Nil w4 W) => (P4.out.on h).bm.mc.2.2.2.2.1
  have k5 := fun W (h : Mods Nil w4 W) => (P4.out.on h).bm.mc.2.2.2.2.2.1
  have k6 := fun W (h : Mods Nil w4 W) => (P4.out.on h).bm.mc.2.2.2.2.2.2.1
  have k7 := fun W (h : Mods Nil w4 W) => (P4.out.on h).bm.mc.2.2.2.2.2.2.2.1
  have k8 := fun W (h : Mods Nil w4 W) => (P4.out.on h).bm.mc.2.2.2.2.2.2.2.2.1
  have k9 := fun W (h : Mods Nil w4 W) => (P4.out.on h).bm.mc.2.2.2.2.2.2.2.2.2.1
  have k10 := fun W (h : Mods Nil w4 W) => (P4.out.on h).bm.mc.2.2.2.2.2.2.2.2.2.2
  have HMO : Hid (∀ W, Mods Nil w4 W → Calls Tryd.prog 14 #[.agg (MC m L)] W fun e w' => e = .returned (.agg (RC m L.Av L.cv)) ∧ Mods Nil W w') := fun W h => msgOf_any (P4.out.on h).im
  have HCK : Hid (∀ W, Mods Nil w4 W → Calls Tryd.prog 17 #[.agg (MC m L)] W fun e w' => e = .returned (.int .i64 0) ∧ Mods Nil W w') := fun W h => by
    have := check_any (m := m) (L := L) HOK.out (P4.out.on h).tab
    rwa [HC.out] at this
  have HRC : Hid (∀ W, Calls Tryd.prog 18 #[.agg (RC m L.Av L.cv)] W fun e w' => e = .returned (.int .i64 0) ∧ Mods Nil W w') := fun W => by
    have := rcheck_any (w := W) (m := m) (A := L.Av) (c := L.cv) HOK.out
    rwa [HC.out] at this
  go_region_held (fun W => Mods Nil w4 W) (first | exact (Mods.refl Nil w4).drew | assumption) (first
    | (go_at_call 14; refine (HMO.out _ (by first | exact (Mods.refl Nil w4).drew | assumption)).mono ?_; rintro e wa ⟨rfl, ma⟩; have hqa : Mods Nil w4 wa := Mods.trans (by first | exact (Mods.refl Nil w4).drew | assumption) ma; clear ma)
    | (go_at_call 17; refine (HCK.out _ (by first | exact (Mods.refl Nil w4).drew | assumption)).mono ?_; rintro e wb ⟨rfl, mb⟩; have hqb : Mods Nil w4 wb := Mods.trans (by first | exact (Mods.refl Nil w4).drew | assumption) mb; clear mb)
    | (go_at_call 18; refine (HRC.out _).mono ?_; rintro e wc ⟨rfl, mc⟩; have hqc : Mods Nil w4 wc := Mods.trans (by assumption) mc; clear mc))
  all_goals
    clear k0 k1 k2 k3 k4 k5 k6 k7 k8 k9 k10 kx
    have M5 := Lib.hid (show Mods Nil w4 _ from by assumption)
    have P5 := Lib.hid (P4.out.on M5.out)
    go_wp2_with (go_at_call 11; refine (HG.out _ _ _ P5.out.tab (S4.out.mods M5.out (fun _ _ h => h))).mono ?_; rintro e w6 ⟨L6, rfl, i6, m6⟩; dsimp only [MC]; have b6 : Blk (w6.alloc (.cells #[.int .i64 m.kind, .int .u64 m.ballot, .int .u64 m.slot, .int .i64 m.shard, .int .i64 m.seg, .int .u64 m.client, .int .u64 m.seq, .int .u64 m.pos, .int .i64 m.code, .slice L6.Av m.vec.length L6.cv, .slice L6.Ab m.body.length L6.cb] 32)) w6.heap.size 32 (MC m L6) := Blk.new w6 _ _; have mA : Mods Nil w6 (w6.alloc (.cells #[.int .i64 m.kind, .int .u64 m.ballot, .int .u64 m.slot, .int .i64 m.shard, .int .i64 m.seg, .int .u64 m.client, .int .u64 m.seq, .int .u64 m.pos, .int .i64 m.code, .slice L6.Av m.vec.length L6.cv, .slice L6.Ab m.body.length L6.cb] 32)) := (Mods.refl _ _).alloc _; have P6 := Lib.hid ((P5.out.on m6).on mA); have B6 := Lib.hid b6; have I6 := Lib.hid (i6.in_.mods mA); clear i6 m6 b6 mA)
    obtain ⟨w7, hw7⟩ : ∃ w7, (w6.alloc (.cells #[.int .i64 m.kind, .int .u64 m.ballot, .int .u64 m.slot, .int .i64 m.shard, .int .i64 m.seg, .int .u64 m.client, .int .u64 m.seq, .int .u64 m.pos, .int .i64 m.code, .slice L6.Av m.vec.length L6.cv, .slice L6.Ab m.body.length L6.cb] 32)) = w7 := ⟨_, rfl⟩
    rw [hw7] at P6 B6 I6 ⊢
    clear hw7
    have k0 := fun W (h : Mods Nil w7 W) => (P6.out.on h).bm.mc.1
    have l0 := fun W (h : Mods Nil w7 W) => (B6.out.mods h (fun h => h)).mc.1
    have k1 := fun W (h : Mods Nil w7 W) => (P6.out.on h).bm.mc.2.1
    have l1 := fun W (h : Mods Nil w7 W) => (B6.out.mods h (fun h => h)).mc.2.1
    have k2 := fun W (h : Mods Nil w7 W) => (P6.out.on h).bm.mc.2.2.1
    have l2 := fun W (h : Mods Nil w7 W) => (B6.out.mods h (fun h => h)).mc.2.2.1
    have k3 := fun W (h : Mods Nil w7 W) => (P6.out.on h).bm.mc.2.2.2.1
    have l3 := fun W (h : Mods Nil w7 W) => (B6.out.mods h (fun h => h)).mc.2.2.2.1
    have k4 := fun W (h : Mods Nil w7 W) => (P6.out.on h).bm.mc.2.2.2.2.1
    have l4 := fun W (h : Mods Nil w7 W) => (B6.out.mods h (fun h => h)).mc.2.2.2.2.1
    have k5 := fun W (h : Mods Nil w7 W) => (P6.out.on h).bm.mc.2.2.2.2.2.1
    have l5 := fun W (h : Mods Nil w7 W) => (B6.out.mods h (fun h => h)).mc.2.2.2.2.2.1
    have k6 := fun W (h : Mods Nil w7 W) => (P6.out.on h).bm.mc.2.2.2.2.2.2.1
    have l6 := fun W (h : Mods Nil w7 W) => (B6.out.mods h (fun h => h)).mc.2.2.2.2.2.2.1
    have k7 := fun W (h : Mods Nil w7 W) => (P6.out.on h).bm.mc.2.2.2.2.2.2.2.1
    have l7 := fun W (h : Mods Nil w7 W) => (B6.out.mods h (fun h => h)).mc.2.2.2.2.2.2.2.1
    have k8 := fun W (h : Mods Nil w7 W) => (P6.out.on h).bm.mc.2.2.2.2.2.2.2.2.1
    have l8 := fun W (h : Mods Nil w7 W) => (B6.out.mods h (fun h => h)).mc.2.2.2.2.2.2.2.2.1
    have k9 := fun W (h : Mods Nil w7 W) => (P6.out.on h).bm.mc.2.2.2.2.2.2.2.2.2.1
    have l9 := fun W (h : Mods Nil w7 W) => (B6.out.mods h (fun h => h)).mc.2.2.2.2.2.2.2.2.2.1
    have k10 := fun W (h : Mods Nil w7 W) => (P6.out.on h).bm.mc.2.2.2.2.2.2.2.2.2.2
    have l10 := fun W (h : Mods Nil w7 W) => (B6.out.mods h (fun h => h)).mc.2.2.2.2.2.2.2.2.2.2
    go_region_held (fun W => Mods Nil w7 W) (first | exact (Mods.refl Nil w7).drew | assumption) (first
      | (go_at_call_of 14 (Value.agg #[.int .i64 m.kind, .int .u64 m.ballot, .int .u64 m.slot, .int .i64 m.shard, .int .i64 m.seg, .int .u64 m.client, .int .u64 m.seq, .int .u64 m.pos, .int .i64 m.code, .slice L.Av m.vec.length L.cv, .slice L.Ab m.body.length L.cb]); refine (show Calls _ _ #[.agg (MC m L)] _ _ from msgOf_any (P6.out.on (by first | exact (Mods.refl Nil w7).drew | assumption)).im).mono ?_; rintro e wa ⟨rfl, ma⟩; have hqa : Mods Nil w7 wa := Mods.trans (by first | exact (Mods.refl Nil w7).drew | assumption) ma; clear ma)
      | (go_at_call 14; refine (show Calls _ _ #[.agg (MC m L6)] _ _ from msgOf_any (I6.out.mods (by first | exact (Mods.refl Nil w7).drew | assumption))).mono ?_; rintro e wb ⟨rfl, mb⟩; have hqb : Mods Nil w7 wb := Mods.trans (by first | exact (Mods.refl Nil w7).drew | assumption) mb; clear mb)
      | (go_at_call 13; refine (rsame_yes (I6.out.mods (w' := _) (by assumption)).v (P6.out.on (by assumption)).im.v).mono ?_; rintro e wc ⟨rfl, mc⟩; have hqc : Mods Nil w7 wc := Mods.trans (by assumption) mc; clear mc))
    all_goals
      go_wp2
      go_ret
      exact ⟨rfl, P6.out.mods.trans (by assumption)⟩
  
set_option maxHeartbeats 16000000 in
theorem msgPuts_1 {w : World} {m : PM} {L : Loc} (P0 : Hid (One4 w (w.alloc (.cells (MC m L) 32)) m L)) (hb1 : (m.vec.length : Int) ≤ 300) (hb2 : (m.body.length : Int) ≤ 300)
    {xa : List UInt8} {qa : Nat} (HOK : Hid (m.ok)) (HC : Hid (chk m = 1)) (HQA : Hid (xa.length = qa)) (HP : Hid (PutTo4 m L xa qa 1)) (HRP : Hid (RPutTo m xa 1)) (ks1 : (strOf xa).toList = xa) :
    Calls Tryd.prog 4 #[.agg (MC m L)] w fun e w' => e = .returned (.bool true) ∧ Mods Nil w w' := by
  go_enter Tryd.func4, Tryd.ntmps4
  go_wp2_with (first
    | (go_at_call 9; refine (awake4_any _ P0.out.tab).mono ?_; rintro e w1 ⟨rfl, m1⟩; have p1 := P0.out.on m1; obtain ⟨c0, c1, c2, c3, c4, c5, c6, c7, c8, c9, c10⟩ := p1.bm.mc; have P1 := Lib.hid p1; clear m1 p1)
    | (go_at_call 15; refine (show Calls _ _ #[.agg (MC m L)] _ _ from HP.out _ P1.out.tab P1.out.im).mono ?_; rintro e w2 ⟨A2, e2, rfl, s2, m2⟩; have p2 := P1.out.on m2; clear c0 c1 c2 c3 c4 c5 c6 c7 c8 c9 c10; obtain ⟨c0, c1, c2, c3, c4, c5, c6, c7, c8, c9, c10⟩ := p2.bm.mc; have P2 := Lib.hid p2; have S2 := Lib.hid s2; clear s2 m2 p2)
    | (go_at_call 14; refine (show Calls _ _ #[.agg (MC m L)] _ _ from msgOf_any P2.out.im).mono ?_; rintro e w3 ⟨rfl, m3⟩; have p3 := P2.out.on m3; clear c0 c1 c2 c3 c4 c5 c6 c7 c8 c9 c10; have P3 := Lib.hid p3; have S3 := Lib.hid (S2.out.mods m3 (fun _ _ h => h)); clear m3 p3)
    | (go_at_call 16; refine (HRP.out _ _ _ P3.out.im.v).mono ?_; rintro e w4 ⟨rfl, m4⟩; have P4 := Lib.hid (P3.out.on m4); have S4 := Lib.hid (S3.out.mods m4 (fun _ _ h => h)); clear m4))
  have kx : ∀ W, Mods Nil w4 W → (convert 22 9 (.slice A2 qa e2)).run Tryd.prog W = .ok (.string (strOf xa)) W := fun W h => conv_sl4 HQA.out (S4.out.mods h (fun _ _ h => h))
  have k0 := fun W (h : Mods Nil w4 W) => (P4.out.on h).bm.mc.1
  have k1 := fun W (h : Mods Nil w4 W) => (P4.out.on h).bm.mc.2.1
  have k2 := fun W (h : Mods Nil w4 W) => (P4.out.on h).bm.mc.2.2.1
  have k3 := fun W (h : Mods Nil w4 W) => (P4.out.on h).bm.mc.2.2.2.1
  have k4 := fun W (h : Mods Nil w4 W) => (P4.out.on h).bm.mc.2.2.2.2.1
  have k5 := fun W (h : Mods Nil w4 W) => (P4.out.on h).bm.mc.2.2.2.2.2.1
  have k6 := fun W (h : Mods Nil w4 W) => (P4.out.on h).bm.mc.2.2.2.2.2.2.1
  have k7 := fun W (h : Mods Nil w4 W) => (P4.out.on h).bm.mc.2.2.2.2.2.2.2.1
  have k8 := fun W (h : Mods Nil w4 W) => (P4.out.on h).bm.mc.2.2.2.2.2.2.2.2.1
  have k9 := fun W (h : Mods Nil w4 W) => (P4.out.on h).bm.mc.2.2.2.2.2.2.2.2.2.1
  have k10 := fun W (h : Mods Nil w4 W) => (P4.out.on h).bm.mc.2.2.2.2.2.2.2.2.2.2
  have HMO : Hid (∀ W, Mods Nil w4 W → Calls Tryd.prog 14 #[.agg (MC m L)] W fun e w' => e = .returned (.agg (RC m L.Av L.cv)) ∧ Mods Nil W w') := fun W h => msgOf_any (P4.out.on h).im
  have HCK : Hid (∀ W, Mods Nil w4 W → Calls Tryd.prog 17 #[.agg (MC m L)] W fun e w' => e = .returned (.int .i64 1) ∧ Mods Nil W w') := fun W h => by
    have := check_any (m := m) (L := L) HOK.out (P4.out.on h).tab
    rwa [HC.out] at this
  have HRC : Hid (∀ W, Calls Tryd.prog 18 #[.agg (RC m L.Av L.cv)] W fun e w' => e = .returned (.int .i64 1) ∧ Mods Nil W w') := fun W => by
    have := rcheck_any (w := W) (m := m) (A := L.Av) (c := L.cv) HOK.out
    rwa [HC.out] at this
  go_region_held (fun W => Mods Nil w4 W) (first | exact (Mods.refl Nil w4).drew | assumption) (first
    | (go_at_call 14; refine (HMO.out _ (by first | exact (Mods.refl Nil w4).drew | assumption)).mono ?_; rintro e wa ⟨rfl, ma⟩; have hqa : Mods Nil w4 wa := Mods.trans (by first | exact (Mods.refl Nil w4).drew | assumption) ma; clear ma)
    | (go_at_call 17; refine (HCK.out _ (by first | exact (Mods.refl Nil w4).drew | assumption)).mono ?_; rintro e wb ⟨rfl, mb⟩; have hqb : Mods Nil w4 wb := Mods.trans (by first | exact (Mods.refl Nil w4).drew | assumption) mb; clear mb)
    | (go_at_call 18; refine (HRC.out _).mono ?_; rintro e wc ⟨rfl, mc⟩; have hqc : Mods Nil w4 wc := Mods.trans (by assumption) mc; clear mc))
  all_goals
    go_wp2
    go_ret
    exact ⟨rfl, P4.out.mods.trans (by assumption)⟩
theorem msgPuts_walk (w : World) (hT : Tab w) {m : PM} {L : Loc} (hi : In w m L) (hok : m.vec.length ≤ 140737488355328 → m.body.length ≤ 140737488355328 → m.ok) :
    Calls Tryd.prog 4 #[.agg (MC m L)] w fun e w' => e = .returned (.bool true) ∧ Mods Nil w w' := by
  have P0 := Lib.hid (one4 hT hi)
  by_cases h1 : 300 < m.vec.length
  · exact msgPuts_big1 P0 (by omega)
  by_cases h2 : 300 < m.body.length
  · exact msgPuts_big2 P0 (by omega) (by omega)
  have ho := hok (by omega) (by omega)
  rcases chk_kinds m with hc | hc
  · have hg := chk_zero.1 hc
    have hp : pOut m = putOf m := by unfold pOut; rw [if_pos hc]
    refine msgPuts_0 P0 (by omega) (by omega) (Lib.hid ho) (Lib.hid hc) (Lib.hid rfl) (putTo4 ho hc) (rputTo ho hc) (strOf_toList _) ?_
    intro W A c h2 h3
    have hl := frameOf_le (kb m.kind) (bodyOf_length ho hg) (by omega)
    have := mget_any h2 rfl h3 (by rw [hp]; unfold putOf; omega)
    rw [hp, (get_put ho hg).1, (get_put ho hg).2] at this
    rw [hp]
    exact this
  · exact msgPuts_1 P0 (by omega) (by omega) (Lib.hid ho) (Lib.hid hc) (Lib.hid rfl) (putTo4 ho hc) (rputTo ho hc) (strOf_toList _)
end Go.Proofs.YtlheaicojmjdpaaDoor
