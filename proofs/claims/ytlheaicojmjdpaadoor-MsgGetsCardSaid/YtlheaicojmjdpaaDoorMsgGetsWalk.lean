/- MsgGets' walk. -/
import Derived.Test.YtlheaicojmjdpaaDoorMsgOf4
import Derived.Test.YtlheaicojmjdpaaDoorRef04j
import Derived.Test.YtlheaicojmjdpaaDoorRef04B
import Derived.Deep.RegionHeld
namespace Go.Proofs.YtlheaicojmjdpaaDoor
set_option maxRecDepth 100000
open Go.RowKit
set_option linter.unusedVariables false

theorem conv_bytes4 (w : World) {zs : List UInt8} {q : Nat} (hq : zs.length = q) (hle : q ≤ 140737488355328) :
    ∃ c W', (convert 9 22 (.string (strOf zs))).run Tryd.prog w = .ok (.slice (some ⟨w.heap.size, 0, none⟩) q c) W' ∧ Sl W' (some ⟨w.heap.size, 0, none⟩) c (bts zs) ∧ Mods Nil w W' := by
  have hsz : (strOf zs).size = q := by simp [hq]
  have h := run_bytes_of_string (P := Tryd.prog) w 9 22 5 (strOf zs) Tryd.underlying9 Tryd.underlying22 Tryd.underlying5
  rw [hsz] at h
  obtain ⟨cap, hcap⟩ : ∃ cap, grownCap w q 0 5 = cap := ⟨_, rfl⟩
  have h1 := grownCap_ge w q 0 5
  have h2 := grownCap_le_maxLen w q 0 5 (by unfold maxLen; omega)
  rw [hcap] at h h1 h2
  refine ⟨_, _, h, ?_, (Mods.refl _ _).drew.alloc _⟩
  have hbs : (bytesRow (strOf zs) cap).size = cap := by
    unfold bytesRow
    rw [hsz]
    simp [strOf, hq]
    omega
  have hb := build_sl w.drew (bytesRow (strOf zs) cap) 5 ((bytesRow (strOf zs) cap).size, (bytesRow (strOf zs) cap).size + 1) (by rw [hbs]; exact h2)
  have ht := hb.take q
  rw [hbs] at ht
  have he : (bytesRow (strOf zs) cap).toList.take q = bts zs := by
    unfold bytesRow bts
    simp [strOf]
    rw [List.take_append_of_le_length (by simp [hq]), List.take_of_length_le (by simp [hq])]
  rw [he] at ht
  rw [hbs]
  exact ht

set_option maxHeartbeats 8000000 in
theorem msgGets_big (w : World) (hT : Tab w) {A : Option Addr} {c n : Nat} {xs : List UInt8} (hn : xs.length = n) (hs : Sl w A c (bts xs)) (own : Bool) (k : UInt8) (hb : (600 : Int) < (n : Int)) :
    Calls Tryd.prog 3 #[.slice A n c, .bool own, .int .u8 (k.toNat : Int)] w fun e w' => e = .returned (.bool true) ∧ Mods Nil w w' := by
  have HT := Lib.hid hT
  have HS := Lib.hid hs
  have HN := Lib.hid hn
  clear hT hs hn
  go_enter Tryd.func3, Tryd.ntmps3
  go_wp2_with (go_at_call 9; refine (awake4_any _ HT.out).mono ?_; rintro e w1 ⟨rfl, m1⟩; have M1 := Lib.hid m1; have HT1 := Lib.hid (HT.out.mods m1 (fun h => h)); have S1 := Lib.hid (HS.out.mods m1 (fun _ _ h => h)); clear m1)
  go_ret
  exact ⟨rfl, M1.out⟩
set_option maxHeartbeats 16000000 in
theorem msgGets_bare (w : World) (HT : Hid (Tab w)) {A : Option Addr} {c n : Nat} {xs : List UInt8} (HN : Hid (xs.length = n)) (HS : Hid (Sl w A c (bts xs))) (k : UInt8) (hb : (n : Int) ≤ 600) (HZL : Hid (xs.length = n))
    {m : PM} {E : Int} (hee : (E == E) = true) (HG : Hid (∀ W A2 c2, Tab W → Sl W A2 c2 (bts xs) → Calls Tryd.prog 11 #[.slice A2 n c2] W (GotM W m E)))
    (HR : Hid (∀ W, Calls Tryd.prog 12 #[.string (strOf xs)] W fun e w' => ∃ A c, e = .returned (.tuple #[.agg (RC m A c), .int .i64 E]) ∧ Sl w' A c (nums m.vec) ∧ Mods Nil W w')) :
    Calls Tryd.prog 3 #[.slice A n c, .bool false, .int .u8 (k.toNat : Int)] w fun e w' => e = .returned (.bool true) ∧ Mods Nil w w' := by
  go_enter Tryd.func3, Tryd.ntmps3
  go_wp2_with (first
    | (go_at_call 9; refine (awake4_any _ HT.out).mono ?_; rintro e w1 ⟨rfl, m1⟩; have M1 := Lib.hid m1; have HT1 := Lib.hid (HT.out.mods m1 (fun h => h)); have S1 := Lib.hid (HS.out.mods m1 (fun _ _ h => h)); clear m1; have k1 := conv_sl4 HN.out S1.out; obtain ⟨c3, w3, k3, s3, m3⟩ := conv_bytes4 w1 HZL.out (by omega); have S3 := Lib.hid s3; have HT3 := Lib.hid (HT1.out.mods m3 (fun h => h)); have M3 := Lib.hid (M1.out.trans m3); clear s3 m3)
    | (go_at_call 11; refine (HG.out _ _ _ HT3.out S3.out).mono ?_; rintro e w4 ⟨L4, rfl, i4, m4⟩; dsimp only [MC]; have b4 : Blk (w4.alloc (.cells #[.int .i64 m.kind, .int .u64 m.ballot, .int .u64 m.slot, .int .i64 m.shard, .int .i64 m.seg, .int .u64 m.client, .int .u64 m.seq, .int .u64 m.pos, .int .i64 m.code, .slice L4.Av m.vec.length L4.cv, .slice L4.Ab m.body.length L4.cb] 32)) w4.heap.size 32 (MC m L4) := Blk.new w4 _ _; have mA : Mods Nil w4 (w4.alloc (.cells #[.int .i64 m.kind, .int .u64 m.ballot, .int .u64 m.slot, .int .i64 m.shard, .int .i64 m.seg, .int .u64 m.client, .int .u64 m.seq, .int .u64 m.pos, .int .i64 m.code, .slice L4.Av m.vec.length L4.cv, .slice L4.Ab m.body.length L4.cb] 32)) := (Mods.refl _ _).alloc _; have B4 := Lib.hid b4; have I4 := Lib.hid (i4.in_.mods mA); have M4 := Lib.hid ((M3.out.trans m4).trans mA); clear i4 m4 b4 mA)
    | (go_at_call 12; refine (HR.out _).mono ?_; rintro e w5 ⟨A5, c5, rfl, s5, m5⟩; dsimp only [RC]; have b5 : Blk (w5.alloc (.cells #[.int .i64 m.kind, .int .u64 m.ballot, .int .u64 m.slot, .int .i64 m.shard, .int .i64 m.seg, .int .u64 m.client, .int .u64 m.seq, .int .u64 m.pos, .int .i64 m.code, .slice A5 m.vec.length c5, .string (strOf m.body)] 36)) w5.heap.size 36 (RC m A5 c5) := Blk.new w5 _ _; have mB : Mods Nil w5 (w5.alloc (.cells #[.int .i64 m.kind, .int .u64 m.ballot, .int .u64 m.slot, .int .i64 m.shard, .int .i64 m.seg, .int .u64 m.client, .int .u64 m.seq, .int .u64 m.pos, .int .i64 m.code, .slice A5 m.vec.length c5, .string (strOf m.body)] 36)) := (Mods.refl _ _).alloc _; have B5 := Lib.hid b5; have S5 := Lib.hid (s5.mods mB (fun _ _ h => h)); have B45 := Lib.hid ((B4.out.mods m5 (fun h => h)).mods mB (fun h => h)); have I5 := Lib.hid ((I4.out.mods m5).mods mB); have M5 := Lib.hid ((M4.out.trans m5).trans mB); clear s5 m5 b5 mB))
  obtain ⟨w7, hw7⟩ : ∃ w7, (w5.alloc (.cells #[.int .i64 m.kind, .int .u64 m.ballot, .int .u64 m.slot, .int .i64 m.shard, .int .i64 m.seg, .int .u64 m.client, .int .u64 m.seq, .int .u64 m.pos, .int .i64 m.code, .slice A5 m.vec.length c5, .string (strOf m.body)] 36)) = w7 := ⟨_, rfl⟩
  rw [hw7] at B5 S5 B45 I5 M5 ⊢
  clear hw7
  have k0 := fun W (h : Mods Nil w7 W) => (B45.out.mods h (fun h => h)).mc.1
  have l0 := fun W (h : Mods Nil w7 W) => (B5.out.mods h (fun h => h)).rc.1
  have k1 := fun W (h : Mods Nil w7 W) => (B45.out.mods h (fun h => h)).mc.2.1
  have l1 := fun W (h : Mods Nil w7 W) => (B5.out.mods h (fun h => h)).rc.2.1
  have k2 := fun W (h : Mods Nil w7 W) => (B45.out.mods h (fun h => h)).mc.2.2.1
  have l2 := fun W (h : Mods Nil w7 W) => (B5.out.mods h (fun h => h)).rc.2.2.1
  have k3 := fun W (h : Mods Nil w7 W) => (B45.out.mods h (fun h => h)).mc.2.2.2.1
  have l3 := fun W (h : Mods Nil w7 W) => (B5.out.mods h (fun h => h)).rc.2.2.2.1
  have k4 := fun W (h : Mods Nil w7 W) => (B45.out.mods h (fun h => h)).mc.2.2.2.2.1
  have l4 := fun W (h : Mods Nil w7 W) => (B5.out.mods h (fun h => h)).rc.2.2.2.2.1
  have k5 := fun W (h : Mods Nil w7 W) => (B45.out.mods h (fun h => h)).mc.2.2.2.2.2.1
  have l5 := fun W (h : Mods Nil w7 W) => (B5.out.mods h (fun h => h)).rc.2.2.2.2.2.1
  have k6 := fun W (h : Mods Nil w7 W) => (B45.out.mods h (fun h => h)).mc.2.2.2.2.2.2.1
  have l6 := fun W (h : Mods Nil w7 W) => (B5.out.mods h (fun h => h)).rc.2.2.2.2.2.2.1
  have k7 := fun W (h : Mods Nil w7 W) => (B45.out.mods h (fun h => h)).mc.2.2.2.2.2.2.2.1
  have l7 := fun W (h : Mods Nil w7 W) => (B5.out.mods h (fun h => h)).rc.2.2.2.2.2.2.2.1
  have k8 := fun W (h : Mods Nil w7 W) => (B45.out.mods h (fun h => h)).mc.2.2.2.2.2.2.2.2.1
  have l8 := fun W (h : Mods Nil w7 W) => (B5.out.mods h (fun h => h)).rc.2.2.2.2.2.2.2.2.1
  have k9 := fun W (h : Mods Nil w7 W) => (B45.out.mods h (fun h => h)).mc.2.2.2.2.2.2.2.2.2.1
  have l9 := fun W (h : Mods Nil w7 W) => (B5.out.mods h (fun h => h)).rc.2.2.2.2.2.2.2.2.2.1
  have k10 := fun W (h : Mods Nil w7 W) => (B45.out.mods h (fun h => h)).mc.2.2.2.2.2.2.2.2.2.2
  have l10 := fun W (h : Mods Nil w7 W) => (B5.out.mods h (fun h => h)).rc.2.2.2.2.2.2.2.2.2.2
  go_region_held (fun W => Mods Nil w7 W) (first | exact (Mods.refl Nil w7).drew | assumption) (first
    | (go_at_call 14; refine (show Calls _ _ #[.agg (MC m L4)] _ _ from msgOf_any (I5.out.mods (by first | exact (Mods.refl Nil w7).drew | assumption))).mono ?_; rintro e wb ⟨rfl, mb⟩; have hqb : Mods Nil w7 wb := Mods.trans (by first | exact (Mods.refl Nil w7).drew | assumption) mb; clear mb)
    | (go_at_call 13; refine (show Calls _ _ #[.agg (RC m L4.Av L4.cv), .agg (RC m A5 c5)] _ _ from rsame_yes (I5.out.mods (by assumption)).v (S5.out.mods (S := Nil) (by assumption) (fun _ _ h => h))).mono ?_; rintro e wc ⟨rfl, mc⟩; have hqc : Mods Nil w7 wc := Mods.trans (by assumption) mc; clear mc))
  all_goals
    go_wp2
    go_ret
    exact ⟨rfl, M5.out.trans (by assumption)⟩

set_option maxHeartbeats 16000000 in
theorem msgGets_wrap (w : World) (HT : Hid (Tab w)) {A : Option Addr} {c n : Nat} {xs : List UInt8} (HN : Hid (xs.length = n)) (HS : Hid (Sl w A c (bts xs))) (k : UInt8) (hb : (n : Int) ≤ 600) {zs : List UInt8} {q : Nat} (HZ : Hid (frameOf k xs = zs)) (HZL : Hid (zs.length = q)) (hq : q ≤ 614)
    {m : PM} {E : Int} (hee : (E == E) = true) (HG : Hid (∀ W A2 c2, Tab W → Sl W A2 c2 (bts zs) → Calls Tryd.prog 11 #[.slice A2 q c2] W (GotM W m E)))
    (HR : Hid (∀ W, Calls Tryd.prog 12 #[.string (strOf zs)] W fun e w' => ∃ A c, e = .returned (.tuple #[.agg (RC m A c), .int .i64 E]) ∧ Sl w' A c (nums m.vec) ∧ Mods Nil W w')) :
    Calls Tryd.prog 3 #[.slice A n c, .bool true, .int .u8 (k.toNat : Int)] w fun e w' => e = .returned (.bool true) ∧ Mods Nil w w' := by
  go_enter Tryd.func3, Tryd.ntmps3
  go_wp2_with (first
    | (go_at_call 9; refine (awake4_any _ HT.out).mono ?_; rintro e w1 ⟨rfl, m1⟩; have M1 := Lib.hid m1; have HT1 := Lib.hid (HT.out.mods m1 (fun h => h)); have S1 := Lib.hid (HS.out.mods m1 (fun _ _ h => h)); clear m1; have k1 := conv_sl4 HN.out S1.out)
    | (go_at_call 10; refine (r3put_any _ k xs (by have := HN.out; omega)).mono ?_; rintro e w2 ⟨he, m2⟩; rw [HZ.out] at he; subst he; obtain ⟨c3, w3, k3, s3, m3⟩ := conv_bytes4 w2 HZL.out (by omega); have S3 := Lib.hid s3; have HT3 := Lib.hid ((HT1.out.mods m2 (fun h => h)).mods m3 (fun h => h)); have M3 := Lib.hid ((M1.out.trans m2).trans m3); clear s3 m2 m3)
    | (go_at_call 11; refine (HG.out _ _ _ HT3.out S3.out).mono ?_; rintro e w4 ⟨L4, rfl, i4, m4⟩; dsimp only [MC]; have b4 : Blk (w4.alloc (.cells #[.int .i64 m.kind, .int .u64 m.ballot, .int .u64 m.slot, .int .i64 m.shard, .int .i64 m.seg, .int .u64 m.client, .int .u64 m.seq, .int .u64 m.pos, .int .i64 m.code, .slice L4.Av m.vec.length L4.cv, .slice L4.Ab m.body.length L4.cb] 32)) w4.heap.size 32 (MC m L4) := Blk.new w4 _ _; have mA : Mods Nil w4 (w4.alloc (.cells #[.int .i64 m.kind, .int .u64 m.ballot, .int .u64 m.slot, .int .i64 m.shard, .int .i64 m.seg, .int .u64 m.client, .int .u64 m.seq, .int .u64 m.pos, .int .i64 m.code, .slice L4.Av m.vec.length L4.cv, .slice L4.Ab m.body.length L4.cb] 32)) := (Mods.refl _ _).alloc _; have B4 := Lib.hid b4; have I4 := Lib.hid (i4.in_.mods mA); have M4 := Lib.hid ((M3.out.trans m4).trans mA); clear i4 m4 b4 mA)
    | (go_at_call 12; refine (HR.out _).mono ?_; rintro e w5 ⟨A5, c5, rfl, s5, m5⟩; dsimp only [RC]; have b5 : Blk (w5.alloc (.cells #[.int .i64 m.kind, .int .u64 m.ballot, .int .u64 m.slot, .int .i64 m.shard, .int .i64 m.seg, .int .u64 m.client, .int .u64 m.seq, .int .u64 m.pos, .int .i64 m.code, .slice A5 m.vec.length c5, .string (strOf m.body)] 36)) w5.heap.size 36 (RC m A5 c5) := Blk.new w5 _ _; have mB : Mods Nil w5 (w5.alloc (.cells #[.int .i64 m.kind, .int .u64 m.ballot, .int .u64 m.slot, .int .i64 m.shard, .int .i64 m.seg, .int .u64 m.client, .int .u64 m.seq, .int .u64 m.pos, .int .i64 m.code, .slice A5 m.vec.length c5, .string (strOf m.body)] 36)) := (Mods.refl _ _).alloc _; have B5 := Lib.hid b5; have S5 := Lib.hid (s5.mods mB (fun _ _ h => h)); have B45 := Lib.hid ((B4.out.mods m5 (fun h => h)).mods mB (fun h => h)); have I5 := Lib.hid ((I4.out.mods m5).mods mB); have M5 := Lib.hid ((M4.out.trans m5).trans mB); clear s5 m5 b5 mB))
  obtain ⟨w7, hw7⟩ : ∃ w7, (w5.alloc (.cells #[.int .i64 m.kind, .int .u64 m.ballot, .int .u64 m.slot, .int .i64 m.shard, .int .i64 m.seg, .int .u64 m.client, .int .u64 m.seq, .int .u64 m.pos, .int .i64 m.code, .slice A5 m.vec.length c5, .string (strOf m.body)] 36)) = w7 := ⟨_, rfl⟩
  rw [hw7] at B5 S5 B45 I5 M5 ⊢
  clear hw7
  have k0 := fun W (h : Mods Nil w7 W) => (B45.out.mods h (fun h => h)).mc.1
  have l0 := fun W (h : Mods Nil w7 W) => (B5.out.mods h (fun h => h)).rc.1
  have k1 := fun W (h : Mods Nil w7 W) => (B45.out.mods h (fun h => h)).mc.2.1
  have l1 := fun W (h : Mods Nil w7 W) => (B5.out.mods h (fun h => h)).rc.2.1
  have k2 := fun W (h : Mods Nil w7 W) => (B45.out.mods h (fun h => h)).mc.2.2.1
  have l2 := fun W (h : Mods Nil w7 W) => (B5.out.mods h (fun h => h)).rc.2.2.1
  have k3 := fun W (h : Mods Nil w7 W) => (B45.out.mods h (fun h => h)).mc.2.2.2.1
  have l3 := fun W (h : Mods Nil w7 W) => (B5.out.mods h (fun h => h)).rc.2.2.2.1
  have k4 := fun W (h : Mods Nil w7 W) => (B45.out.mods h (fun h => h)).mc.2.2.2.2.1
  have l4 := fun W (h : Mods Nil w7 W) => (B5.out.mods h (fun h => h)).rc.2.2.2.2.1
  have k5 := fun W (h : Mods Nil w7 W) => (B45.out.mods h (fun h => h)).mc.2.2.2.2.2.1
  have l5 := fun W (h : Mods Nil w7 W) => (B5.out.mods h (fun h => h)).rc.2.2.2.2.2.1
  have k6 := fun W (h : Mods Nil w7 W) => (B45.out.mods h (fun h => h)).mc.2.2.2.2.2.2.1
  have l6 := fun W (h : Mods Nil w7 W) => (B5.out.mods h (fun h => h)).rc.2.2.2.2.2.2.1
  have k7 := fun W (h : Mods Nil w7 W) => (B45.out.mods h (fun h => h)).mc.2.2.2.2.2.2.2.1
  have l7 := fun W (h : Mods Nil w7 W) => (B5.out.mods h (fun h => h)).rc.2.2.2.2.2.2.2.1
  have k8 := fun W (h : Mods Nil w7 W) => (B45.out.mods h (fun h => h)).mc.2.2.2.2.2.2.2.2.1
  have l8 := fun W (h : Mods Nil w7 W) => (B5.out.mods h (fun h => h)).rc.2.2.2.2.2.2.2.2.1
  have k9 := fun W (h : Mods Nil w7 W) => (B45.out.mods h (fun h => h)).mc.2.2.2.2.2.2.2.2.2.1
  have l9 := fun W (h : Mods Nil w7 W) => (B5.out.mods h (fun h => h)).rc.2.2.2.2.2.2.2.2.2.1
  have k10 := fun W (h : Mods Nil w7 W) => (B45.out.mods h (fun h => h)).mc.2.2.2.2.2.2.2.2.2.2
  have l10 := fun W (h : Mods Nil w7 W) => (B5.out.mods h (fun h => h)).rc.2.2.2.2.2.2.2.2.2.2
  go_region_held (fun W => Mods Nil w7 W) (first | exact (Mods.refl Nil w7).drew | assumption) (first
    | (go_at_call 14; refine (show Calls _ _ #[.agg (MC m L4)] _ _ from msgOf_any (I5.out.mods (by first | exact (Mods.refl Nil w7).drew | assumption))).mono ?_; rintro e wb ⟨rfl, mb⟩; have hqb : Mods Nil w7 wb := Mods.trans (by first | exact (Mods.refl Nil w7).drew | assumption) mb; clear mb)
    | (go_at_call 13; refine (show Calls _ _ #[.agg (RC m L4.Av L4.cv), .agg (RC m A5 c5)] _ _ from rsame_yes (I5.out.mods (by assumption)).v (S5.out.mods (S := Nil) (by assumption) (fun _ _ h => h))).mono ?_; rintro e wc ⟨rfl, mc⟩; have hqc : Mods Nil w7 wc := Mods.trans (by assumption) mc; clear mc))
  all_goals
    go_wp2
    go_ret
    exact ⟨rfl, M5.out.trans (by assumption)⟩

theorem msgGets_walk (w : World) (hT : Tab w) {A : Option Addr} {c n : Nat} {xs : List UInt8} (hn : xs.length = n) (hs : Sl w A c (bts xs)) (a1 : Bool) {a2 : Int} (w2 : (Lit.int .u8 a2).wf = true) :
    Calls Tryd.prog 3 #[.slice A n c, .bool a1, .int .u8 a2] w fun e w' => e = .returned (.bool true) ∧ Mods Nil w w' := by
  obtain ⟨k, rfl⟩ := u8_nat4 w2
  by_cases hbig : 600 < n
  · exact msgGets_big w hT hn hs a1 k (by omega)
  cases a1 with
  | false =>
    refine msgGets_bare w (Lib.hid hT) (Lib.hid hn) (Lib.hid hs) k (by omega) (Lib.hid hn) (m := mM xs) (E := mE xs) (by simp) ?_ ?_
    · intro W A2 c2 h2 h3
      exact mget_any h2 hn h3 (by omega)
    · intro W
      exact rget_any (by omega)
  | true =>
    have hfl := frameOf_le k (xs := xs) (n := 600) (by omega) (by omega)
    refine msgGets_wrap w (Lib.hid hT) (Lib.hid hn) (Lib.hid hs) k (by omega) (zs := frameOf k xs) (q := (frameOf k xs).length) (Lib.hid rfl) (Lib.hid rfl) hfl (m := mM (frameOf k xs)) (E := mE (frameOf k xs)) (by simp) ?_ ?_
    · intro W A2 c2 h2 h3
      exact mget_any h2 rfl h3 (by omega)
    · intro W
      exact rget_any (by omega)
end Go.Proofs.YtlheaicojmjdpaaDoor
