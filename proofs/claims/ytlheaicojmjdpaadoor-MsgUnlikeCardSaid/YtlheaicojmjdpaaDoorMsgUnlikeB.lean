/- MsgUnlike's walk. -/
import Derived.Test.YtlheaicojmjdpaaDoorMsgUnlikeA
namespace Go.Proofs.YtlheaicojmjdpaaDoor
set_option maxRecDepth 100000
open Go.RowKit
set_option linter.unusedVariables false

def PutTo (a : PM) (La : Loc) (xa : List UInt8) (qa : Nat) (E : Int) : Prop := ∀ W, Tab W → In W a La → Calls Tryd.prog 15 #[.agg (MC a La)] W fun e w' => ∃ A c, e = .returned (.tuple #[.slice A qa c, .int .i64 E]) ∧ Sl w' A c (bts xa) ∧ Mods Nil W w'
def SameTo (a b : PM) (r : Bool) : Prop := ∀ (w : World) A c B d, Sl w A c (nums a.vec) → Sl w B d (nums b.vec) →
    Calls Tryd.prog 13 #[.agg (RC a A c), .agg (RC b B d)] w fun e w' => e = .returned (.bool r) ∧ Mods Nil w w'
set_option maxHeartbeats 8000000 in
theorem msgUnlike_big1 {w : World} {a b : PM} {La Lb : Loc} (P0 : Hid (Two4 w ((w.alloc (.cells (MC a La) 32)).alloc (.cells (MC b Lb) 32)) a b La Lb)) (same : Bool) (hb1 : (50 : Int) < (a.vec.length : Int)) :
    Calls Tryd.prog 8 #[.agg (MC a La), .agg (MC b Lb), .bool same] w fun e w' => e = .returned (.bool true) ∧ Mods Nil w w' := by
  go_enter Tryd.func8, Tryd.ntmps8
  go_wp2_with (go_at_call 9; refine (awake4_any _ P0.out.tab).mono ?_; rintro e w1 ⟨rfl, m1⟩; have p1 := P0.out.on m1; obtain ⟨c0, c1, c2, c3, c4, c5, c6, c7, c8, c9, c10⟩ := p1.ba.mc; obtain ⟨d0, d1, d2, d3, d4, d5, d6, d7, d8, d9, d10⟩ := p1.bb.mc; have P1 := Lib.hid p1; clear m1 p1)
  go_ret
  exact ⟨rfl, P1.out.mods⟩
set_option maxHeartbeats 8000000 in
theorem msgUnlike_big2 {w : World} {a b : PM} {La Lb : Loc} (P0 : Hid (Two4 w ((w.alloc (.cells (MC a La) 32)).alloc (.cells (MC b Lb) 32)) a b La Lb)) (same : Bool) (hb1 : (a.vec.length : Int) ≤ 50) (hb2 : (200 : Int) < (a.body.length : Int)) :
    Calls Tryd.prog 8 #[.agg (MC a La), .agg (MC b Lb), .bool same] w fun e w' => e = .returned (.bool true) ∧ Mods Nil w w' := by
  go_enter Tryd.func8, Tryd.ntmps8
  go_wp2_with (go_at_call 9; refine (awake4_any _ P0.out.tab).mono ?_; rintro e w1 ⟨rfl, m1⟩; have p1 := P0.out.on m1; obtain ⟨c0, c1, c2, c3, c4, c5, c6, c7, c8, c9, c10⟩ := p1.ba.mc; obtain ⟨d0, d1, d2, d3, d4, d5, d6, d7, d8, d9, d10⟩ := p1.bb.mc; have P1 := Lib.hid p1; clear m1 p1)
  go_ret
  exact ⟨rfl, P1.out.mods⟩
set_option maxHeartbeats 8000000 in
theorem msgUnlike_big3 {w : World} {a b : PM} {La Lb : Loc} (P0 : Hid (Two4 w ((w.alloc (.cells (MC a La) 32)).alloc (.cells (MC b Lb) 32)) a b La Lb)) (same : Bool) (hb1 : (a.vec.length : Int) ≤ 50) (hb2 : (a.body.length : Int) ≤ 200) (hb3 : (50 : Int) < (b.vec.length : Int)) :
    Calls Tryd.prog 8 #[.agg (MC a La), .agg (MC b Lb), .bool same] w fun e w' => e = .returned (.bool true) ∧ Mods Nil w w' := by
  go_enter Tryd.func8, Tryd.ntmps8
  go_wp2_with (go_at_call 9; refine (awake4_any _ P0.out.tab).mono ?_; rintro e w1 ⟨rfl, m1⟩; have p1 := P0.out.on m1; obtain ⟨c0, c1, c2, c3, c4, c5, c6, c7, c8, c9, c10⟩ := p1.ba.mc; obtain ⟨d0, d1, d2, d3, d4, d5, d6, d7, d8, d9, d10⟩ := p1.bb.mc; have P1 := Lib.hid p1; clear m1 p1)
  go_ret
  exact ⟨rfl, P1.out.mods⟩
set_option maxHeartbeats 8000000 in
theorem msgUnlike_big4 {w : World} {a b : PM} {La Lb : Loc} (P0 : Hid (Two4 w ((w.alloc (.cells (MC a La) 32)).alloc (.cells (MC b Lb) 32)) a b La Lb)) (same : Bool) (hb1 : (a.vec.length : Int) ≤ 50) (hb2 : (a.body.length : Int) ≤ 200) (hb3 : (b.vec.length : Int) ≤ 50) (hb4 : (200 : Int) < (b.body.length : Int)) :
    Calls Tryd.prog 8 #[.agg (MC a La), .agg (MC b Lb), .bool same] w fun e w' => e = .returned (.bool true) ∧ Mods Nil w w' := by
  go_enter Tryd.func8, Tryd.ntmps8
  go_wp2_with (go_at_call 9; refine (awake4_any _ P0.out.tab).mono ?_; rintro e w1 ⟨rfl, m1⟩; have p1 := P0.out.on m1; obtain ⟨c0, c1, c2, c3, c4, c5, c6, c7, c8, c9, c10⟩ := p1.ba.mc; obtain ⟨d0, d1, d2, d3, d4, d5, d6, d7, d8, d9, d10⟩ := p1.bb.mc; have P1 := Lib.hid p1; clear m1 p1)
  go_ret
  exact ⟨rfl, P1.out.mods⟩
set_option maxHeartbeats 16000000 in
theorem msgUnlike_two_00 {w : World} {a b : PM} {La Lb : Loc} (P0 : Hid (Two4 w ((w.alloc (.cells (MC a La) 32)).alloc (.cells (MC b Lb) 32)) a b La Lb)) (hb1 : (a.vec.length : Int) ≤ 50) (hb2 : (a.body.length : Int) ≤ 200) (hb3 : (b.vec.length : Int) ≤ 50) (hb4 : (b.body.length : Int) ≤ 200)
    {xa xb : List UInt8} {qa qb : Nat} (HQA : Hid (xa.length = qa)) (HQB : Hid (xb.length = qb)) (HPA : Hid (PutTo a La xa qa 0)) (HPB : Hid (PutTo b Lb xb qb 0)) {r : Bool} (HSM : Hid (SameTo a b r)) (hxy : (xa == xb) = r) (hxz : decide (xa = xb) = r) (ks1 : (strOf xa).toList = xa) (ks2 : (strOf xb).toList = xb) :
    Calls Tryd.prog 8 #[.agg (MC a La), .agg (MC b Lb), .bool false] w fun e w' => e = .returned (.bool true) ∧ Mods Nil w w' := by
  go_enter Tryd.func8, Tryd.ntmps8
  go_wp2_with (first
    | (go_at_call 9; refine (awake4_any _ P0.out.tab).mono ?_; rintro e w1 ⟨rfl, m1⟩; have p1 := P0.out.on m1; obtain ⟨c0, c1, c2, c3, c4, c5, c6, c7, c8, c9, c10⟩ := p1.ba.mc; obtain ⟨d0, d1, d2, d3, d4, d5, d6, d7, d8, d9, d10⟩ := p1.bb.mc; have P1 := Lib.hid p1; clear m1 p1)
    | (go_at_call_of 15 (Value.agg #[.int .i64 b.kind, .int .u64 b.ballot, .int .u64 b.slot, .int .i64 b.shard, .int .i64 b.seg, .int .u64 b.client, .int .u64 b.seq, .int .u64 b.pos, .int .i64 b.code, .slice Lb.Av b.vec.length Lb.cv, .slice Lb.Ab b.body.length Lb.cb]); refine (HPB.out _ P2.out.tab P2.out.ib).mono ?_; rintro e w3 ⟨A3, e3, rfl, s3, m3⟩; have p3 := P2.out.on m3; clear c0 c1 c2 c3 c4 c5 c6 c7 c8 c9 c10 d0 d1 d2 d3 d4 d5 d6 d7 d8 d9 d10; obtain ⟨c0, c1, c2, c3, c4, c5, c6, c7, c8, c9, c10⟩ := p3.ba.mc; obtain ⟨d0, d1, d2, d3, d4, d5, d6, d7, d8, d9, d10⟩ := p3.bb.mc; have P3 := Lib.hid p3; have S3 := Lib.hid s3; have N3 := Lib.hid m3; clear s3 m3 p3)
    | (go_at_call_of 15 (Value.agg #[.int .i64 a.kind, .int .u64 a.ballot, .int .u64 a.slot, .int .i64 a.shard, .int .i64 a.seg, .int .u64 a.client, .int .u64 a.seq, .int .u64 a.pos, .int .i64 a.code, .slice La.Av a.vec.length La.cv, .slice La.Ab a.body.length La.cb]); refine (HPA.out _ P1.out.tab P1.out.ia).mono ?_; rintro e w2 ⟨A2, e2, rfl, s2, m2⟩; have p2 := P1.out.on m2; clear c0 c1 c2 c3 c4 c5 c6 c7 c8 c9 c10 d0 d1 d2 d3 d4 d5 d6 d7 d8 d9 d10; obtain ⟨c0, c1, c2, c3, c4, c5, c6, c7, c8, c9, c10⟩ := p2.ba.mc; obtain ⟨d0, d1, d2, d3, d4, d5, d6, d7, d8, d9, d10⟩ := p2.bb.mc; have P2 := Lib.hid p2; have S2 := Lib.hid s2; have N2 := Lib.hid m2; clear s2 m2 p2))
  have kx : ∀ W, Mods Nil w3 W → (convert 22 9 (.slice A2 qa e2)).run Tryd.prog W = .ok (.string (strOf xa)) W := fun W h => conv_sl4 HQA.out (S2.out.mods (N3.out.trans h) (fun _ _ h => h))
  have ky : ∀ W, Mods Nil w3 W → (convert 22 9 (.slice A3 qb e3)).run Tryd.prog W = .ok (.string (strOf xb)) W := fun W h => conv_sl4 HQB.out (S3.out.mods h (fun _ _ h => h))
  have k0 := fun W (h : Mods Nil w3 W) => (P3.out.on h).ba.mc.1
  have l0 := fun W (h : Mods Nil w3 W) => (P3.out.on h).bb.mc.1
  have k1 := fun W (h : Mods Nil w3 W) => (P3.out.on h).ba.mc.2.1
  have l1 := fun W (h : Mods Nil w3 W) => (P3.out.on h).bb.mc.2.1
  have k2 := fun W (h : Mods Nil w3 W) => (P3.out.on h).ba.mc.2.2.1
  have l2 := fun W (h : Mods Nil w3 W) => (P3.out.on h).bb.mc.2.2.1
  have k3 := fun W (h : Mods Nil w3 W) => (P3.out.on h).ba.mc.2.2.2.1
  have l3 := fun W (h : Mods Nil w3 W) => (P3.out.on h).bb.mc.2.2.2.1
  have k4 := fun W (h : Mods Nil w3 W) => (P3.out.on h).ba.mc.2.2.2.2.1
  have l4 := fun W (h : Mods Nil w3 W) => (P3.out.on h).bb.mc.2.2.2.2.1
  have k5 := fun W (h : Mods Nil w3 W) => (P3.out.on h).ba.mc.2.2.2.2.2.1
  have l5 := fun W (h : Mods Nil w3 W) => (P3.out.on h).bb.mc.2.2.2.2.2.1
  have k6 := fun W (h : Mods Nil w3 W) => (P3.out.on h).ba.mc.2.2.2.2.2.2.1
  have l6 := fun W (h : Mods Nil w3 W) => (P3.out.on h).bb.mc.2.2.2.2.2.2.1
  have k7 := fun W (h : Mods Nil w3 W) => (P3.out.on h).ba.mc.2.2.2.2.2.2.2.1
  have l7 := fun W (h : Mods Nil w3 W) => (P3.out.on h).bb.mc.2.2.2.2.2.2.2.1
  have k8 := fun W (h : Mods Nil w3 W) => (P3.out.on h).ba.mc.2.2.2.2.2.2.2.2.1
  have l8 := fun W (h : Mods Nil w3 W) => (P3.out.on h).bb.mc.2.2.2.2.2.2.2.2.1
  have k9 := fun W (h : Mods Nil w3 W) => (P3.out.on h).ba.mc.2.2.2.2.2.2.2.2.2.1
  have l9 := fun W (h : Mods Nil w3 W) => (P3.out.on h).bb.mc.2.2.2.2.2.2.2.2.2.1
  have k10 := fun W (h : Mods Nil w3 W) => (P3.out.on h).ba.mc.2.2.2.2.2.2.2.2.2.2
  have l10 := fun W (h : Mods Nil w3 W) => (P3.out.on h).bb.mc.2.2.2.2.2.2.2.2.2.2
  have HMA : Hid (∀ W, Mods Nil w3 W → Calls Tryd.prog 14 #[.agg (MC a La)] W fun e w' => e = .returned (.agg (RC a La.Av La.cv)) ∧ Mods Nil W w') := fun W h => msgOf_any (P3.out.on h).ia
  have HMB : Hid (∀ W, Mods Nil w3 W → Calls Tryd.prog 14 #[.agg (MC b Lb)] W fun e w' => e = .returned (.agg (RC b Lb.Av Lb.cv)) ∧ Mods Nil W w') := fun W h => msgOf_any (P3.out.on h).ib
  have HSS : Hid (∀ W, Mods Nil w3 W → Calls Tryd.prog 13 #[.agg (RC a La.Av La.cv), .agg (RC b Lb.Av Lb.cv)] W fun e w' => e = .returned (.bool r) ∧ Mods Nil W w') := fun W h => HSM.out W _ _ _ _ (P3.out.on h).ia.v (P3.out.on h).ib.v
  clear c0 c1 c2 c3 c4 c5 c6 c7 c8 c9 c10 d0 d1 d2 d3 d4 d5 d6 d7 d8 d9 d10
  go_region_held (fun W => Mods Nil w3 W) (first | exact (Mods.refl Nil w3).drew | assumption) (first
    | (go_at_call_of 14 (Value.agg #[.int .i64 a.kind, .int .u64 a.ballot, .int .u64 a.slot, .int .i64 a.shard, .int .i64 a.seg, .int .u64 a.client, .int .u64 a.seq, .int .u64 a.pos, .int .i64 a.code, .slice La.Av a.vec.length La.cv, .slice La.Ab a.body.length La.cb]); refine (HMA.out _ (by first | exact (Mods.refl Nil w3).drew | assumption)).mono ?_; rintro e wa ⟨rfl, ma⟩; have hqa : Mods Nil w3 wa := Mods.trans (by first | exact (Mods.refl Nil w3).drew | assumption) ma; clear ma)
    | (go_at_call 14; refine (HMB.out _ (by first | exact (Mods.refl Nil w3).drew | assumption)).mono ?_; rintro e wb ⟨rfl, mb⟩; have hqb : Mods Nil w3 wb := Mods.trans (by first | exact (Mods.refl Nil w3).drew | assumption) mb; clear mb)
    | (go_at_call 13; refine (HSS.out _ (by assumption)).mono ?_; rintro e wc ⟨rfl, mc⟩; have hqc : Mods Nil w3 wc := Mods.trans (by assumption) mc; clear mc))
  all_goals
    go_wp2
    go_ret
    exact ⟨rfl, P3.out.mods.trans (by assumption)⟩

set_option maxHeartbeats 16000000 in
theorem msgUnlike_two_01 {w : World} {a b : PM} {La Lb : Loc} (P0 : Hid (Two4 w ((w.alloc (.cells (MC a La) 32)).alloc (.cells (MC b Lb) 32)) a b La Lb)) (hb1 : (a.vec.length : Int) ≤ 50) (hb2 : (a.body.length : Int) ≤ 200) (hb3 : (b.vec.length : Int) ≤ 50) (hb4 : (b.body.length : Int) ≤ 200)
    {xa xb : List UInt8} {qa qb : Nat} (HQA : Hid (xa.length = qa)) (HQB : Hid (xb.length = qb)) (HPA : Hid (PutTo a La xa qa 0)) (HPB : Hid (PutTo b Lb xb qb 1)) :
    Calls Tryd.prog 8 #[.agg (MC a La), .agg (MC b Lb), .bool false] w fun e w' => e = .returned (.bool true) ∧ Mods Nil w w' := by
  go_enter Tryd.func8, Tryd.ntmps8
  go_wp2_with (first
    | (go_at_call 9; refine (awake4_any _ P0.out.tab).mono ?_; rintro e w1 ⟨rfl, m1⟩; have p1 := P0.out.on m1; obtain ⟨c0, c1, c2, c3, c4, c5, c6, c7, c8, c9, c10⟩ := p1.ba.mc; obtain ⟨d0, d1, d2, d3, d4, d5, d6, d7, d8, d9, d10⟩ := p1.bb.mc; have P1 := Lib.hid p1; clear m1 p1)
    | (go_at_call_of 15 (Value.agg #[.int .i64 b.kind, .int .u64 b.ballot, .int .u64 b.slot, .int .i64 b.shard, .int .i64 b.seg, .int .u64 b.client, .int .u64 b.seq, .int .u64 b.pos, .int .i64 b.code, .slice Lb.Av b.vec.length Lb.cv, .slice Lb.Ab b.body.length Lb.cb]); refine (HPB.out _ P2.out.tab P2.out.ib).mono ?_; rintro e w3 ⟨A3, e3, rfl, s3, m3⟩; have p3 := P2.out.on m3; clear c0 c1 c2 c3 c4 c5 c6 c7 c8 c9 c10 d0 d1 d2 d3 d4 d5 d6 d7 d8 d9 d10; obtain ⟨c0, c1, c2, c3, c4, c5, c6, c7, c8, c9, c10⟩ := p3.ba.mc; obtain ⟨d0, d1, d2, d3, d4, d5, d6, d7, d8, d9, d10⟩ := p3.bb.mc; have P3 := Lib.hid p3; have S3 := Lib.hid s3; have N3 := Lib.hid m3; clear s3 m3 p3)
    | (go_at_call_of 15 (Value.agg #[.int .i64 a.kind, .int .u64 a.ballot, .int .u64 a.slot, .int .i64 a.shard, .int .i64 a.seg, .int .u64 a.client, .int .u64 a.seq, .int .u64 a.pos, .int .i64 a.code, .slice La.Av a.vec.length La.cv, .slice La.Ab a.body.length La.cb]); refine (HPA.out _ P1.out.tab P1.out.ia).mono ?_; rintro e w2 ⟨A2, e2, rfl, s2, m2⟩; have p2 := P1.out.on m2; clear c0 c1 c2 c3 c4 c5 c6 c7 c8 c9 c10 d0 d1 d2 d3 d4 d5 d6 d7 d8 d9 d10; obtain ⟨c0, c1, c2, c3, c4, c5, c6, c7, c8, c9, c10⟩ := p2.ba.mc; obtain ⟨d0, d1, d2, d3, d4, d5, d6, d7, d8, d9, d10⟩ := p2.bb.mc; have P2 := Lib.hid p2; have S2 := Lib.hid s2; have N2 := Lib.hid m2; clear s2 m2 p2))
  go_ret
  exact ⟨rfl, P3.out.mods⟩

set_option maxHeartbeats 16000000 in
theorem msgUnlike_two_10 {w : World} {a b : PM} {La Lb : Loc} (P0 : Hid (Two4 w ((w.alloc (.cells (MC a La) 32)).alloc (.cells (MC b Lb) 32)) a b La Lb)) (hb1 : (a.vec.length : Int) ≤ 50) (hb2 : (a.body.length : Int) ≤ 200) (hb3 : (b.vec.length : Int) ≤ 50) (hb4 : (b.body.length : Int) ≤ 200)
    {xa xb : List UInt8} {qa qb : Nat} (HQA : Hid (xa.length = qa)) (HQB : Hid (xb.length = qb)) (HPA : Hid (PutTo a La xa qa 1)) (HPB : Hid (PutTo b Lb xb qb 0)) :
    Calls Tryd.prog 8 #[.agg (MC a La), .agg (MC b Lb), .bool false] w fun e w' => e = .returned (.bool true) ∧ Mods Nil w w' := by
  go_enter Tryd.func8, Tryd.ntmps8
  go_wp2_with (first
    | (go_at_call 9; refine (awake4_any _ P0.out.tab).mono ?_; rintro e w1 ⟨rfl, m1⟩; have p1 := P0.out.on m1; obtain ⟨c0, c1, c2, c3, c4, c5, c6, c7, c8, c9, c10⟩ := p1.ba.mc; obtain ⟨d0, d1, d2, d3, d4, d5, d6, d7, d8, d9, d10⟩ := p1.bb.mc; have P1 := Lib.hid p1; clear m1 p1)
    | (go_at_call_of 15 (Value.agg #[.int .i64 b.kind, .int .u64 b.ballot, .int .u64 b.slot, .int .i64 b.shard, .int .i64 b.seg, .int .u64 b.client, .int .u64 b.seq, .int .u64 b.pos, .int .i64 b.code, .slice Lb.Av b.vec.length Lb.cv, .slice Lb.Ab b.body.length Lb.cb]); refine (HPB.out _ P2.out.tab P2.out.ib).mono ?_; rintro e w3 ⟨A3, e3, rfl, s3, m3⟩; have p3 := P2.out.on m3; clear c0 c1 c2 c3 c4 c5 c6 c7 c8 c9 c10 d0 d1 d2 d3 d4 d5 d6 d7 d8 d9 d10; obtain ⟨c0, c1, c2, c3, c4, c5, c6, c7, c8, c9, c10⟩ := p3.ba.mc; obtain ⟨d0, d1, d2, d3, d4, d5, d6, d7, d8, d9, d10⟩ := p3.bb.mc; have P3 := Lib.hid p3; have S3 := Lib.hid s3; have N3 := Lib.hid m3; clear s3 m3 p3)
    | (go_at_call_of 15 (Value.agg #[.int .i64 a.kind, .int .u64 a.ballot, .int .u64 a.slot, .int .i64 a.shard, .int .i64 a.seg, .int .u64 a.client, .int .u64 a.seq, .int .u64 a.pos, .int .i64 a.code, .slice La.Av a.vec.length La.cv, .slice La.Ab a.body.length La.cb]); refine (HPA.out _ P1.out.tab P1.out.ia).mono ?_; rintro e w2 ⟨A2, e2, rfl, s2, m2⟩; have p2 := P1.out.on m2; clear c0 c1 c2 c3 c4 c5 c6 c7 c8 c9 c10 d0 d1 d2 d3 d4 d5 d6 d7 d8 d9 d10; obtain ⟨c0, c1, c2, c3, c4, c5, c6, c7, c8, c9, c10⟩ := p2.ba.mc; obtain ⟨d0, d1, d2, d3, d4, d5, d6, d7, d8, d9, d10⟩ := p2.bb.mc; have P2 := Lib.hid p2; have S2 := Lib.hid s2; have N2 := Lib.hid m2; clear s2 m2 p2))
  go_ret
  exact ⟨rfl, P3.out.mods⟩

set_option maxHeartbeats 16000000 in
theorem msgUnlike_two_11 {w : World} {a b : PM} {La Lb : Loc} (P0 : Hid (Two4 w ((w.alloc (.cells (MC a La) 32)).alloc (.cells (MC b Lb) 32)) a b La Lb)) (hb1 : (a.vec.length : Int) ≤ 50) (hb2 : (a.body.length : Int) ≤ 200) (hb3 : (b.vec.length : Int) ≤ 50) (hb4 : (b.body.length : Int) ≤ 200)
    {xa xb : List UInt8} {qa qb : Nat} (HQA : Hid (xa.length = qa)) (HQB : Hid (xb.length = qb)) (HPA : Hid (PutTo a La xa qa 1)) (HPB : Hid (PutTo b Lb xb qb 1)) :
    Calls Tryd.prog 8 #[.agg (MC a La), .agg (MC b Lb), .bool false] w fun e w' => e = .returned (.bool true) ∧ Mods Nil w w' := by
  go_enter Tryd.func8, Tryd.ntmps8
  go_wp2_with (first
    | (go_at_call 9; refine (awake4_any _ P0.out.tab).mono ?_; rintro e w1 ⟨rfl, m1⟩; have p1 := P0.out.on m1; obtain ⟨c0, c1, c2, c3, c4, c5, c6, c7, c8, c9, c10⟩ := p1.ba.mc; obtain ⟨d0, d1, d2, d3, d4, d5, d6, d7, d8, d9, d10⟩ := p1.bb.mc; have P1 := Lib.hid p1; clear m1 p1)
    | (go_at_call_of 15 (Value.agg #[.int .i64 b.kind, .int .u64 b.ballot, .int .u64 b.slot, .int .i64 b.shard, .int .i64 b.seg, .int .u64 b.client, .int .u64 b.seq, .int .u64 b.pos, .int .i64 b.code, .slice Lb.Av b.vec.length Lb.cv, .slice Lb.Ab b.body.length Lb.cb]); refine (HPB.out _ P2.out.tab P2.out.ib).mono ?_; rintro e w3 ⟨A3, e3, rfl, s3, m3⟩; have p3 := P2.out.on m3; clear c0 c1 c2 c3 c4 c5 c6 c7 c8 c9 c10 d0 d1 d2 d3 d4 d5 d6 d7 d8 d9 d10; obtain ⟨c0, c1, c2, c3, c4, c5, c6, c7, c8, c9, c10⟩ := p3.ba.mc; obtain ⟨d0, d1, d2, d3, d4, d5, d6, d7, d8, d9, d10⟩ := p3.bb.mc; have P3 := Lib.hid p3; have S3 := Lib.hid s3; have N3 := Lib.hid m3; clear s3 m3 p3)
    | (go_at_call_of 15 (Value.agg #[.int .i64 a.kind, .int .u64 a.ballot, .int .u64 a.slot, .int .i64 a.shard, .int .i64 a.seg, .int .u64 a.client, .int .u64 a.seq, .int .u64 a.pos, .int .i64 a.code, .slice La.Av a.vec.length La.cv, .slice La.Ab a.body.length La.cb]); refine (HPA.out _ P1.out.tab P1.out.ia).mono ?_; rintro e w2 ⟨A2, e2, rfl, s2, m2⟩; have p2 := P1.out.on m2; clear c0 c1 c2 c3 c4 c5 c6 c7 c8 c9 c10 d0 d1 d2 d3 d4 d5 d6 d7 d8 d9 d10; obtain ⟨c0, c1, c2, c3, c4, c5, c6, c7, c8, c9, c10⟩ := p2.ba.mc; obtain ⟨d0, d1, d2, d3, d4, d5, d6, d7, d8, d9, d10⟩ := p2.bb.mc; have P2 := Lib.hid p2; have S2 := Lib.hid s2; have N2 := Lib.hid m2; clear s2 m2 p2))
  go_ret
  exact ⟨rfl, P3.out.mods⟩

set_option maxHeartbeats 16000000 in
theorem msgUnlike_same_00 {w : World} {a b : PM} {La Lb : Loc} (P0 : Hid (Two4 w ((w.alloc (.cells (MC a La) 32)).alloc (.cells (MC b Lb) 32)) a b La Lb)) (hb1 : (a.vec.length : Int) ≤ 50) (hb2 : (a.body.length : Int) ≤ 200) (hb3 : (b.vec.length : Int) ≤ 50) (hb4 : (b.body.length : Int) ≤ 200)
    {xa xb : List UInt8} {qa qb : Nat} (HQA : Hid (xa.length = qa)) (HQB : Hid (xb.length = qb)) (HPA : Hid (PutTo a La xa qa 0)) (HPB : Hid (PutTo a La xb qb 0)) {r : Bool} (HSM : Hid (SameTo a a r)) (hxy : (xa == xb) = r) (hxz : decide (xa = xb) = r) (ks1 : (strOf xa).toList = xa) (ks2 : (strOf xb).toList = xb) :
    Calls Tryd.prog 8 #[.agg (MC a La), .agg (MC b Lb), .bool true] w fun e w' => e = .returned (.bool true) ∧ Mods Nil w w' := by
  go_enter Tryd.func8, Tryd.ntmps8
  go_wp2_with (first
    | (go_at_call 9; refine (awake4_any _ P0.out.tab).mono ?_; rintro e w1 ⟨rfl, m1⟩; have p1 := P0.out.on m1; obtain ⟨c0, c1, c2, c3, c4, c5, c6, c7, c8, c9, c10⟩ := p1.ba.mc; obtain ⟨d0, d1, d2, d3, d4, d5, d6, d7, d8, d9, d10⟩ := p1.bb.mc; have P1 := Lib.hid p1; clear m1 p1)
    | (refine wpList_store_row rfl _ _ _ rfl rfl (w.heap.size + 1) rfl _ (MC b Lb) (MC a La) rfl P1.out.bb rfl (MC_one _ _) MC_info (MC_cells _ _) ?_; have p5 := P1.out.copy; clear c0 c1 c2 c3 c4 c5 c6 c7 c8 c9 c10 d0 d1 d2 d3 d4 d5 d6 d7 d8 d9 d10; obtain ⟨c0, c1, c2, c3, c4, c5, c6, c7, c8, c9, c10⟩ := p5.ba.mc; obtain ⟨d0, d1, d2, d3, d4, d5, d6, d7, d8, d9, d10⟩ := p5.bb.mc; have P5 := Lib.hid p5; clear p5)
    | (go_at_call_of 15 (Value.agg #[.int .i64 a.kind, .int .u64 a.ballot, .int .u64 a.slot, .int .i64 a.shard, .int .i64 a.seg, .int .u64 a.client, .int .u64 a.seq, .int .u64 a.pos, .int .i64 a.code, .slice La.Av a.vec.length La.cv, .slice La.Ab a.body.length La.cb]); refine (HPB.out _ P2.out.tab P2.out.ib).mono ?_; rintro e w3 ⟨A3, e3, rfl, s3, m3⟩; have p3 := P2.out.on m3; clear c0 c1 c2 c3 c4 c5 c6 c7 c8 c9 c10 d0 d1 d2 d3 d4 d5 d6 d7 d8 d9 d10; obtain ⟨c0, c1, c2, c3, c4, c5, c6, c7, c8, c9, c10⟩ := p3.ba.mc; obtain ⟨d0, d1, d2, d3, d4, d5, d6, d7, d8, d9, d10⟩ := p3.bb.mc; have P3 := Lib.hid p3; have S3 := Lib.hid s3; have N3 := Lib.hid m3; clear s3 m3 p3)
    | (go_at_call_of 15 (Value.agg #[.int .i64 a.kind, .int .u64 a.ballot, .int .u64 a.slot, .int .i64 a.shard, .int .i64 a.seg, .int .u64 a.client, .int .u64 a.seq, .int .u64 a.pos, .int .i64 a.code, .slice La.Av a.vec.length La.cv, .slice La.Ab a.body.length La.cb]); refine (HPA.out _ P5.out.tab P5.out.ia).mono ?_; rintro e w2 ⟨A2, e2, rfl, s2, m2⟩; have p2 := P5.out.on m2; clear c0 c1 c2 c3 c4 c5 c6 c7 c8 c9 c10 d0 d1 d2 d3 d4 d5 d6 d7 d8 d9 d10; obtain ⟨c0, c1, c2, c3, c4, c5, c6, c7, c8, c9, c10⟩ := p2.ba.mc; obtain ⟨d0, d1, d2, d3, d4, d5, d6, d7, d8, d9, d10⟩ := p2.bb.mc; have P2 := Lib.hid p2; have S2 := Lib.hid s2; have N2 := Lib.hid m2; clear s2 m2 p2))
  have kx : ∀ W, Mods Nil w3 W → (convert 22 9 (.slice A2 qa e2)).run Tryd.prog W = .ok (.string (strOf xa)) W := fun W h => conv_sl4 HQA.out (S2.out.mods (N3.out.trans h) (fun _ _ h => h))
  have ky : ∀ W, Mods Nil w3 W → (convert 22 9 (.slice A3 qb e3)).run Tryd.prog W = .ok (.string (strOf xb)) W := fun W h => conv_sl4 HQB.out (S3.out.mods h (fun _ _ h => h))
  have k0 := fun W (h : Mods Nil w3 W) => (P3.out.on h).ba.mc.1
  have l0 := fun W (h : Mods Nil w3 W) => (P3.out.on h).bb.mc.1
  have k1 := fun W (h : Mods Nil w3 W) => (P3.out.on h).ba.mc.2.1
  have l1 := fun W (h : Mods Nil w3 W) => (P3.out.on h).bb.mc.2.1
  have k2 := fun W (h : Mods Nil w3 W) => (P3.out.on h).ba.mc.2.2.1
  have l2 := fun W (h : Mods Nil w3 W) => (P3.out.on h).bb.mc.2.2.1
  have k3 := fun W (h : Mods Nil w3 W) => (P3.out.on h).ba.mc.2.2.2.1
  have l3 := fun W (h : Mods Nil w3 W) => (P3.out.on h).bb.mc.2.2.2.1
  have k4 := fun W (h : Mods Nil w3 W) => (P3.out.on h).ba.mc.2.2.2.2.1
  have l4 := fun W (h : Mods Nil w3 W) => (P3.out.on h).bb.mc.2.2.2.2.1
  have k5 := fun W (h : Mods Nil w3 W) => (P3.out.on h).ba.mc.2.2.2.2.2.1
  have l5 := fun W (h : Mods Nil w3 W) => (P3.out.on h).bb.mc.2.2.2.2.2.1
  have k6 := fun W (h : Mods Nil w3 W) => (P3.out.on h).ba.mc.2.2.2.2.2.2.1
  have l6 := fun W (h : Mods Nil w3 W) => (P3.out.on h).bb.mc.2.2.2.2.2.2.1
  have k7 := fun W (h : Mods Nil w3 W) => (P3.out.on h).ba.mc.2.2.2.2.2.2.2.1
  have l7 := fun W (h : Mods Nil w3 W) => (P3.out.on h).bb.mc.2.2.2.2.2.2.2.1
  have k8 := fun W (h : Mods Nil w3 W) => (P3.out.on h).ba.mc.2.2.2.2.2.2.2.2.1
  have l8 := fun W (h : Mods Nil w3 W) => (P3.out.on h).bb.mc.2.2.2.2.2.2.2.2.1
  have k9 := fun W (h : Mods Nil w3 W) => (P3.out.on h).ba.mc.2.2.2.2.2.2.2.2.2.1
  have l9 := fun W (h : Mods Nil w3 W) => (P3.out.on h).bb.mc.2.2.2.2.2.2.2.2.2.1
  have k10 := fun W (h : Mods Nil w3 W) => (P3.out.on h).ba.mc.2.2.2.2.2.2.2.2.2.2
  have l10 := fun W (h : Mods Nil w3 W) => (P3.out.on h).bb.mc.2.2.2.2.2.2.2.2.2.2
  have HMA : Hid (∀ W, Mods Nil w3 W → Calls Tryd.prog 14 #[.agg (MC a La)] W fun e w' => e = .returned (.agg (RC a La.Av La.cv)) ∧ Mods Nil W w') := fun W h => msgOf_any (P3.out.on h).ia
  have HMB : Hid (∀ W, Mods Nil w3 W → Calls Tryd.prog 14 #[.agg (MC a La)] W fun e w' => e = .returned (.agg (RC a La.Av La.cv)) ∧ Mods Nil W w') := fun W h => msgOf_any (P3.out.on h).ib
  have HSS : Hid (∀ W, Mods Nil w3 W → Calls Tryd.prog 13 #[.agg (RC a La.Av La.cv), .agg (RC a La.Av La.cv)] W fun e w' => e = .returned (.bool r) ∧ Mods Nil W w') := fun W h => HSM.out W _ _ _ _ (P3.out.on h).ia.v (P3.out.on h).ib.v
  clear c0 c1 c2 c3 c4 c5 c6 c7 c8 c9 c10 d0 d1 d2 d3 d4 d5 d6 d7 d8 d9 d10
  go_region_held (fun W => Mods Nil w3 W) (first | exact (Mods.refl Nil w3).drew | assumption) (first
    | (go_at_call_of 14 (Value.agg #[.int .i64 a.kind, .int .u64 a.ballot, .int .u64 a.slot, .int .i64 a.shard, .int .i64 a.seg, .int .u64 a.client, .int .u64 a.seq, .int .u64 a.pos, .int .i64 a.code, .slice La.Av a.vec.length La.cv, .slice La.Ab a.body.length La.cb]); refine (HMA.out _ (by first | exact (Mods.refl Nil w3).drew | assumption)).mono ?_; rintro e wa ⟨rfl, ma⟩; have hqa : Mods Nil w3 wa := Mods.trans (by first | exact (Mods.refl Nil w3).drew | assumption) ma; clear ma)
    | (go_at_call 14; refine (HMB.out _ (by first | exact (Mods.refl Nil w3).drew | assumption)).mono ?_; rintro e wb ⟨rfl, mb⟩; have hqb : Mods Nil w3 wb := Mods.trans (by first | exact (Mods.refl Nil w3).drew | assumption) mb; clear mb)
    | (go_at_call 13; refine (HSS.out _ (by assumption)).mono ?_; rintro e wc ⟨rfl, mc⟩; have hqc : Mods Nil w3 wc := Mods.trans (by assumption) mc; clear mc))
  all_goals
    go_wp2
    go_ret
    exact ⟨rfl, P3.out.mods.trans (by assumption)⟩

set_option maxHeartbeats 16000000 in
theorem msgUnlike_same_11 {w : World} {a b : PM} {La Lb : Loc} (P0 : Hid (Two4 w ((w.alloc (.cells (MC a La) 32)).alloc (.cells (MC b Lb) 32)) a b La Lb)) (hb1 : (a.vec.length : Int) ≤ 50) (hb2 : (a.body.length : Int) ≤ 200) (hb3 : (b.vec.length : Int) ≤ 50) (hb4 : (b.body.length : Int) ≤ 200)
    {xa xb : List UInt8} {qa qb : Nat} (HQA : Hid (xa.length = qa)) (HQB : Hid (xb.length = qb)) (HPA : Hid (PutTo a La xa qa 1)) (HPB : Hid (PutTo a La xb qb 1)) :
    Calls Tryd.prog 8 #[.agg (MC a La), .agg (MC b Lb), .bool true] w fun e w' => e = .returned (.bool true) ∧ Mods Nil w w' := by
  go_enter Tryd.func8, Tryd.ntmps8
  go_wp2_with (first
    | (go_at_call 9; refine (awake4_any _ P0.out.tab).mono ?_; rintro e w1 ⟨rfl, m1⟩; have p1 := P0.out.on m1; obtain ⟨c0, c1, c2, c3, c4, c5, c6, c7, c8, c9, c10⟩ := p1.ba.mc; obtain ⟨d0, d1, d2, d3, d4, d5, d6, d7, d8, d9, d10⟩ := p1.bb.mc; have P1 := Lib.hid p1; clear m1 p1)
    | (refine wpList_store_row rfl _ _ _ rfl rfl (w.heap.size + 1) rfl _ (MC b Lb) (MC a La) rfl P1.out.bb rfl (MC_one _ _) MC_info (MC_cells _ _) ?_; have p5 := P1.out.copy; clear c0 c1 c2 c3 c4 c5 c6 c7 c8 c9 c10 d0 d1 d2 d3 d4 d5 d6 d7 d8 d9 d10; obtain ⟨c0, c1, c2, c3, c4, c5, c6, c7, c8, c9, c10⟩ := p5.ba.mc; obtain ⟨d0, d1, d2, d3, d4, d5, d6, d7, d8, d9, d10⟩ := p5.bb.mc; have P5 := Lib.hid p5; clear p5)
    | (go_at_call_of 15 (Value.agg #[.int .i64 a.kind, .int .u64 a.ballot, .int .u64 a.slot, .int .i64 a.shard, .int .i64 a.seg, .int .u64 a.client, .int .u64 a.seq, .int .u64 a.pos, .int .i64 a.code, .slice La.Av a.vec.length La.cv, .slice La.Ab a.body.length La.cb]); refine (HPB.out _ P2.out.tab P2.out.ib).mono ?_; rintro e w3 ⟨A3, e3, rfl, s3, m3⟩; have p3 := P2.out.on m3; clear c0 c1 c2 c3 c4 c5 c6 c7 c8 c9 c10 d0 d1 d2 d3 d4 d5 d6 d7 d8 d9 d10; obtain ⟨c0, c1, c2, c3, c4, c5, c6, c7, c8, c9, c10⟩ := p3.ba.mc; obtain ⟨d0, d1, d2, d3, d4, d5, d6, d7, d8, d9, d10⟩ := p3.bb.mc; have P3 := Lib.hid p3; have S3 := Lib.hid s3; have N3 := Lib.hid m3; clear s3 m3 p3)
    | (go_at_call_of 15 (Value.agg #[.int .i64 a.kind, .int .u64 a.ballot, .int .u64 a.slot, .int .i64 a.shard, .int .i64 a.seg, .int .u64 a.client, .int .u64 a.seq, .int .u64 a.pos, .int .i64 a.code, .slice La.Av a.vec.length La.cv, .slice La.Ab a.body.length La.cb]); refine (HPA.out _ P5.out.tab P5.out.ia).mono ?_; rintro e w2 ⟨A2, e2, rfl, s2, m2⟩; have p2 := P5.out.on m2; clear c0 c1 c2 c3 c4 c5 c6 c7 c8 c9 c10 d0 d1 d2 d3 d4 d5 d6 d7 d8 d9 d10; obtain ⟨c0, c1, c2, c3, c4, c5, c6, c7, c8, c9, c10⟩ := p2.ba.mc; obtain ⟨d0, d1, d2, d3, d4, d5, d6, d7, d8, d9, d10⟩ := p2.bb.mc; have P2 := Lib.hid p2; have S2 := Lib.hid s2; have N2 := Lib.hid m2; clear s2 m2 p2))
  go_ret
  exact ⟨rfl, P3.out.mods⟩

end Go.Proofs.YtlheaicojmjdpaaDoor
