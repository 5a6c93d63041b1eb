/- MsgOne's walk. -/
import Derived.Test.YtlheaicojmjdpaaDoorHelp4
namespace Go.Proofs.YtlheaicojmjdpaaDoor
set_option maxRecDepth 100000
open Go.RowKit
set_option linter.unusedVariables false

set_option maxHeartbeats 8000000 in
theorem msgOne_nat (w : World) (hT : Tab w) {A : Option Addr} {c n : Nat} {xs : List UInt8} (hn : xs.length = n) (hs : Sl w A c (bts xs)) (own : Bool) (k : UInt8) :
    Calls Tryd.prog 5 #[.slice A n c, .bool own, .int .u8 (k.toNat : Int)] w fun e w' => e = .returned (.bool true) ∧ Mods Nil w w' := by
  have HT := Lib.hid hT
  have HS := Lib.hid hs
  have HN := Lib.hid hn
  by_cases hbig : 600 < n
  · have hb : (600 : Int) < (n : Int) := by omega
    clear hs hT hn
    go_enter Tryd.func5, Tryd.ntmps5
    go_wp2_with (go_at_call 9; refine (awake4_any _ HT.out).mono ?_; rintro e w1 ⟨rfl, m1⟩; have M1 := Lib.hid m1; have HT1 := Lib.hid (HT.out.mods m1 (fun h => h)); have S1 := Lib.hid (HS.out.mods m1 (fun _ _ h => h)); clear m1)
    go_ret
    exact ⟨rfl, M1.out⟩
  · have hb : (n : Int) ≤ 600 := by omega
    have hb' : n ≤ 600 := by omega
    cases own with
    | true =>
      obtain ⟨zs, hzs⟩ : ∃ zs, frameOf k xs = zs := ⟨_, rfl⟩
      obtain ⟨q, hq⟩ : ∃ q, zs.length = q := ⟨_, rfl⟩
      have hfl := frameOf_le k (xs := xs) (n := 600) (by omega) (by omega)
      rw [hzs, hq] at hfl
      have HZ := Lib.hid hzs
      have HZM : Hid ((frameOf k xs).length = q) := by show _ = _; rw [hzs, hq]
      have HM := Lib.hid hq
      by_cases hE : mE zs = 0
      · obtain ⟨hp, hok, hgd⟩ := put_get hE
        obtain ⟨m, hm⟩ : ∃ m, mM zs = m := ⟨_, rfl⟩
        rw [hm] at hp hok hgd
        have HG : Hid (∀ W A2 c2 n2, zs.length = n2 → Tab W → Sl W A2 c2 (bts zs) → Calls Tryd.prog 11 #[.slice A2 n2 c2] W (GotM W m 0)) := fun W A2 c2 n2 h1 h2 h3 => by rw [← hm, ← hE]; exact mget_any h2 h1 h3 (by omega)
        have HOK := Lib.hid hok
        have HGD := Lib.hid hgd
        have HPUT := Lib.hid hp
        have ks := strOf_toList zs
        clear hE hm hs hT hn hzs hq hp hok hgd
        go_enter Tryd.func5, Tryd.ntmps5
        go_wp2_with (first
          | (go_at_call 9; refine (awake4_any _ HT.out).mono ?_; rintro e w1 ⟨rfl, m1⟩; have M1 := Lib.hid m1; have HT1 := Lib.hid (HT.out.mods m1 (fun h => h)); have S1 := Lib.hid (HS.out.mods m1 (fun _ _ h => h)); clear m1)
          | (go_at_call 19; refine (fput_to HN.out (by omega) HZM.out S1.out).mono ?_; rintro e w0 ⟨A0, c0, rfl, s0, hc0, hcm0, -, m0⟩; rw [HZ.out] at s0; have S0 := Lib.hid s0; have M0 := Lib.hid (M1.out.trans m0); have HT0 := Lib.hid (HT1.out.mods m0 (fun h => h)); clear s0 m0 hc0 hcm0)
          | (go_at_call_of 11 (Value.slice A0 q c0); refine (HG.out _ _ _ _ HM.out HT0.out S0.out).mono ?_; rintro e w2 ⟨L2, rfl, i2, m2⟩; dsimp only [MC]; have B2 : Blk (w2.alloc (.cells #[.int .i64 m.kind, .int .u64 m.ballot, .int .u64 m.slot, .int .i64 m.shard, .int .i64 m.seg, .int .u64 m.client, .int .u64 m.seq, .int .u64 m.pos, .int .i64 m.code, .slice L2.Av m.vec.length L2.cv, .slice L2.Ab m.body.length L2.cb] 32)) w2.heap.size 32 (MC m L2) := Blk.new w2 _ _; obtain ⟨d0, d1, d2, d3, d4, d5, d6, d7, d8, d9, d10⟩ := B2.mc; have mA : Mods Nil w2 (w2.alloc (.cells #[.int .i64 m.kind, .int .u64 m.ballot, .int .u64 m.slot, .int .i64 m.shard, .int .i64 m.seg, .int .u64 m.client, .int .u64 m.seq, .int .u64 m.pos, .int .i64 m.code, .slice L2.Av m.vec.length L2.cv, .slice L2.Ab m.body.length L2.cb] 32)) := (Mods.refl _ _).alloc _; have I2 := Lib.hid (i2.in_.mods mA); have M2 := Lib.hid ((M0.out.trans m2).trans mA); have M2' := Lib.hid (m2.trans mA); have HT2 := Lib.hid ((HT0.out.mods m2 (fun h => h)).mods mA (fun h => h)); clear i2 m2 B2 mA)
          | (go_at_call 15; refine (mput_any (m := m) (L := L2) HOK.out HT2.out I2.out HGD.out).mono ?_; rintro e w3 ⟨v3, rfl, o3, m3⟩; rw [HPUT.out, HM.out] at o3; obtain ⟨A3, c3, rfl, -, s3, -⟩ := own_slice o3; have k1 := conv_sl4 HM.out s3; have k2 := conv_sl4 HM.out ((S0.out.mods M2'.out (fun _ _ h => h)).mods m3 (fun _ _ h => h)); have M3 := Lib.hid (M2.out.trans m3); clear o3 s3 m3))
        go_ret
        exact ⟨rfl, M3.out⟩
      · have hm := mM_bad hE
        obtain ⟨E, hEE⟩ : ∃ E, mE zs = E := ⟨_, rfl⟩
        rw [hEE] at hE
        have HG : Hid (∀ W A2 c2 n2, zs.length = n2 → Tab W → Sl W A2 c2 (bts zs) → Calls Tryd.prog 11 #[.slice A2 n2 c2] W (GotM W {} E)) := fun W A2 c2 n2 h1 h2 h3 => by rw [← hm, ← hEE]; exact mget_any h2 h1 h3 (by omega)
        have hb2 : (E != 0) = true := by simp [hE]
        clear hE hEE hm hs hT hn hzs hq
        go_enter Tryd.func5, Tryd.ntmps5
        go_wp2_with (first
          | (go_at_call 9; refine (awake4_any _ HT.out).mono ?_; rintro e w1 ⟨rfl, m1⟩; have M1 := Lib.hid m1; have HT1 := Lib.hid (HT.out.mods m1 (fun h => h)); have S1 := Lib.hid (HS.out.mods m1 (fun _ _ h => h)); clear m1)
          | (go_at_call 19; refine (fput_to HN.out (by omega) HZM.out S1.out).mono ?_; rintro e w0 ⟨A0, c0, rfl, s0, hc0, hcm0, -, m0⟩; rw [HZ.out] at s0; have S0 := Lib.hid s0; have M0 := Lib.hid (M1.out.trans m0); have HT0 := Lib.hid (HT1.out.mods m0 (fun h => h)); clear s0 m0 hc0 hcm0)
          | (go_at_call_of 11 (Value.slice A0 q c0); refine (HG.out _ _ _ _ HM.out HT0.out S0.out).mono ?_; rintro e w2 ⟨L2, rfl, i2, m2⟩; dsimp only [MC]; have B2 : Blk (w2.alloc (.cells #[.int .i64 0, .int .u64 0, .int .u64 0, .int .i64 0, .int .i64 0, .int .u64 0, .int .u64 0, .int .u64 0, .int .i64 0, .slice L2.Av 0 L2.cv, .slice L2.Ab 0 L2.cb] 32)) w2.heap.size 32 (MC {} L2) := Blk.new w2 _ _; obtain ⟨d0, d1, d2, d3, d4, d5, d6, d7, d8, d9, d10⟩ := B2.mc; dsimp only at d0 d9 d10; clear d1 d2 d3 d4 d5 d6 d7 d8; have M2 := Lib.hid ((M0.out.trans m2).alloc (.cells #[.int .i64 0, .int .u64 0, .int .u64 0, .int .i64 0, .int .i64 0, .int .u64 0, .int .u64 0, .int .u64 0, .int .i64 0, .slice L2.Av 0 L2.cv, .slice L2.Ab 0 L2.cb] 32)); clear i2 m2 B2))
        go_ret
        exact ⟨rfl, M2.out⟩
    | false =>
      by_cases hE : mE xs = 0
      · obtain ⟨hp, hok, hgd⟩ := put_get hE
        obtain ⟨m, hm⟩ : ∃ m, mM xs = m := ⟨_, rfl⟩
        rw [hm] at hp hok hgd
        have HG : Hid (∀ W A2 c2 n2, xs.length = n2 → Tab W → Sl W A2 c2 (bts xs) → Calls Tryd.prog 11 #[.slice A2 n2 c2] W (GotM W m 0)) := fun W A2 c2 n2 h1 h2 h3 => by rw [← hm, ← hE]; exact mget_any h2 h1 h3 (by omega)
        have HOK := Lib.hid hok
        have HGD := Lib.hid hgd
        have HPUT := Lib.hid hp
        have HM := Lib.hid hn
        have ks := strOf_toList xs
        clear hE hm hs hT hn hp hok hgd
        go_enter Tryd.func5, Tryd.ntmps5
        go_wp2_with (first
          | (go_at_call 9; refine (awake4_any _ HT.out).mono ?_; rintro e w1 ⟨rfl, m1⟩; have M1 := Lib.hid m1; have HT1 := Lib.hid (HT.out.mods m1 (fun h => h)); have S1 := Lib.hid (HS.out.mods m1 (fun _ _ h => h)); clear m1)
          | (go_at_call_of 11 (Value.slice A n c); refine (HG.out _ _ _ _ HM.out HT1.out S1.out).mono ?_; rintro e w2 ⟨L2, rfl, i2, m2⟩; dsimp only [MC]; have B2 : Blk (w2.alloc (.cells #[.int .i64 m.kind, .int .u64 m.ballot, .int .u64 m.slot, .int .i64 m.shard, .int .i64 m.seg, .int .u64 m.client, .int .u64 m.seq, .int .u64 m.pos, .int .i64 m.code, .slice L2.Av m.vec.length L2.cv, .slice L2.Ab m.body.length L2.cb] 32)) w2.heap.size 32 (MC m L2) := Blk.new w2 _ _; obtain ⟨d0, d1, d2, d3, d4, d5, d6, d7, d8, d9, d10⟩ := B2.mc; have mA : Mods Nil w2 (w2.alloc (.cells #[.int .i64 m.kind, .int .u64 m.ballot, .int .u64 m.slot, .int .i64 m.shard, .int .i64 m.seg, .int .u64 m.client, .int .u64 m.seq, .int .u64 m.pos, .int .i64 m.code, .slice L2.Av m.vec.length L2.cv, .slice L2.Ab m.body.length L2.cb] 32)) := (Mods.refl _ _).alloc _; have I2 := Lib.hid (i2.in_.mods mA); have M2 := Lib.hid ((M1.out.trans m2).trans mA); have M2' := Lib.hid (m2.trans mA); have HT2 := Lib.hid ((HT1.out.mods m2 (fun h => h)).mods mA (fun h => h)); clear i2 m2 B2 mA)
          | (go_at_call 15; refine (mput_any (m := m) (L := L2) HOK.out HT2.out I2.out HGD.out).mono ?_; rintro e w3 ⟨v3, rfl, o3, m3⟩; rw [HPUT.out, HM.out] at o3; obtain ⟨A3, c3, rfl, -, s3, -⟩ := own_slice o3; have k1 := conv_sl4 HM.out s3; have k2 := conv_sl4 HM.out ((S1.out.mods M2'.out (fun _ _ h => h)).mods m3 (fun _ _ h => h)); have M3 := Lib.hid (M2.out.trans m3); clear o3 s3 m3))
        go_ret
        exact ⟨rfl, M3.out⟩
      · have hm := mM_bad hE
        obtain ⟨E, hEE⟩ : ∃ E, mE xs = E := ⟨_, rfl⟩
        rw [hEE] at hE
        have HG : Hid (∀ W A2 c2 n2, xs.length = n2 → Tab W → Sl W A2 c2 (bts xs) → Calls Tryd.prog 11 #[.slice A2 n2 c2] W (GotM W {} E)) := fun W A2 c2 n2 h1 h2 h3 => by rw [← hm, ← hEE]; exact mget_any h2 h1 h3 (by omega)
        have hb2 : (E != 0) = true := by simp [hE]
        clear hE hEE hm hs hT hn
        go_enter Tryd.func5, Tryd.ntmps5
        go_wp2_with (first
          | (go_at_call 9; refine (awake4_any _ HT.out).mono ?_; rintro e w1 ⟨rfl, m1⟩; have M1 := Lib.hid m1; have HT1 := Lib.hid (HT.out.mods m1 (fun h => h)); have S1 := Lib.hid (HS.out.mods m1 (fun _ _ h => h)); clear m1)
          | (go_at_call_of 11 (Value.slice A n c); refine (HG.out _ _ _ _ HN.out HT1.out S1.out).mono ?_; rintro e w2 ⟨L2, rfl, i2, m2⟩; dsimp only [MC]; have B2 : Blk (w2.alloc (.cells #[.int .i64 0, .int .u64 0, .int .u64 0, .int .i64 0, .int .i64 0, .int .u64 0, .int .u64 0, .int .u64 0, .int .i64 0, .slice L2.Av 0 L2.cv, .slice L2.Ab 0 L2.cb] 32)) w2.heap.size 32 (MC {} L2) := Blk.new w2 _ _; obtain ⟨d0, d1, d2, d3, d4, d5, d6, d7, d8, d9, d10⟩ := B2.mc; dsimp only at d0 d9 d10; clear d1 d2 d3 d4 d5 d6 d7 d8; have M2 := Lib.hid ((M1.out.trans m2).alloc (.cells #[.int .i64 0, .int .u64 0, .int .u64 0, .int .i64 0, .int .i64 0, .int .u64 0, .int .u64 0, .int .u64 0, .int .i64 0, .slice L2.Av 0 L2.cv, .slice L2.Ab 0 L2.cb] 32)); clear i2 m2 B2))
        go_ret
        exact ⟨rfl, M2.out⟩
theorem msgOne_walk (w : World) (hT : Tab w) {A : Option Addr} {c n : Nat} {xs : List UInt8} (hn : xs.length = n) (hs : Sl w A c (bts xs)) (a1 : Bool) {a2 : Int} (w2 : (Lit.int .u8 a2).wf = true) :
    Calls Tryd.prog 5 #[.slice A n c, .bool a1, .int .u8 a2] w fun e w' => e = .returned (.bool true) ∧ Mods Nil w w' := by
  obtain ⟨k, rfl⟩ := u8_nat4 w2
  exact msgOne_nat w hT hn hs a1 k
end Go.Proofs.YtlheaicojmjdpaaDoor
