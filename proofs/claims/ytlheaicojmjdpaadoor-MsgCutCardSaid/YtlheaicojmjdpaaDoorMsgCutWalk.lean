/- MsgCut's walk. -/
import Derived.Test.YtlheaicojmjdpaaDoorHelp4
import Derived.Test.YtlheaicojmjdpaaDoorMemX
namespace Go.Proofs.YtlheaicojmjdpaaDoor
set_option maxRecDepth 100000
open Go.RowKit
set_option linter.unusedVariables false

set_option maxHeartbeats 8000000 in
theorem msgCut_nat (w : World) (hT : Tab w) {m : PM} {L : Loc} (hi : In w m L) (hok : m.vec.length ≤ 140737488355328 → m.body.length ≤ 140737488355328 → m.ok) (at_ : Nat) (hat : at_ < 65536) (k : UInt8) :
    Calls Tryd.prog 7 #[.agg (MC m L), .int .u16 at_, .int .u8 (k.toNat : Int)] w fun e w' => e = .returned (.bool true) ∧ Mods Nil w w' := by
  have m0 := (Mods.refl Nil w).alloc (.cells (MC m L) 32)
  have M0 := Lib.hid m0
  have HT := Lib.hid (hT.mods m0 (fun h => h))
  have HB := Lib.hid (Blk.new w 32 (MC m L))
  have HI := Lib.hid (hi.mods m0)
  clear m0
  by_cases h1 : 50 < m.vec.length
  · have hb : (50 : Int) < (m.vec.length : Int) := by omega
    clear hT hi hok
    go_enter Tryd.func7, Tryd.ntmps7
    go_wp2_with (go_at_call 9; refine (awake4_any _ HT.out).mono ?_; rintro e w1 ⟨rfl, m1⟩; have b1 := HB.out.mods m1 (fun h => h); obtain ⟨d0, d1, d2, d3, d4, d5, d6, d7, d8, d9, d10⟩ := b1.mc; have M1 := Lib.hid (M0.out.trans m1); have HT1 := Lib.hid (HT.out.mods m1 (fun h => h)); have I1 := Lib.hid (HI.out.mods m1); clear m1 b1)
    go_ret
    exact ⟨rfl, M1.out⟩
  · have hb1 : (m.vec.length : Int) ≤ 50 := by omega
    by_cases h2 : 300 < m.body.length
    · have hb : (300 : Int) < (m.body.length : Int) := by omega
      clear hT hi hok h1
      go_enter Tryd.func7, Tryd.ntmps7
      go_wp2_with (go_at_call 9; refine (awake4_any _ HT.out).mono ?_; rintro e w1 ⟨rfl, m1⟩; have b1 := HB.out.mods m1 (fun h => h); obtain ⟨d0, d1, d2, d3, d4, d5, d6, d7, d8, d9, d10⟩ := b1.mc; have M1 := Lib.hid (M0.out.trans m1); have HT1 := Lib.hid (HT.out.mods m1 (fun h => h)); have I1 := Lib.hid (HI.out.mods m1); clear m1 b1)
      go_ret
      exact ⟨rfl, M1.out⟩
    · have hb2 : (m.body.length : Int) ≤ 300 := by omega
      have ho := hok (by omega) (by omega)
      have HOK := Lib.hid ho
      rcases chk_kinds m with hc | hc
      · have hg := chk_zero.1 hc
        have HGD := Lib.hid hg
        obtain ⟨zs, hz⟩ : ∃ zs, putOf m = zs := ⟨_, rfl⟩
        obtain ⟨q, hq⟩ : ∃ q, zs.length = q := ⟨_, rfl⟩
        have hqle : q ≤ 35176 := by rw [← hq, ← hz]; exact frameOf_le _ (bodyOf_length ho hg) (by omega)
        have hq1 : 1 ≤ q := by rw [← hq, ← hz]; unfold putOf; have := frameOf_length (kb m.kind) (bodyOf m); omega
        obtain ⟨t, ht⟩ : ∃ t, at_ % q = t := ⟨_, rfl⟩
        have htq : t < q := by rw [← ht]; exact Nat.mod_lt _ (by omega)
        have htl : (zs.take t).length = t := by simp; omega
        have hall : (zs ++ [k]).length = q + 1 := by simp [hq]
        have hm1 : mE (zs.take t) = 10 := by rw [← hz]; exact put_cut ho hg (by rw [hz, hq]; exact htq)
        have hm2 : mE (zs ++ [k]) = 11 := by rw [← hz]; exact put_more ho hg k
        have HG1 : Hid (∀ W A2 c2, Tab W → Sl W A2 c2 (bts (zs.take t)) → Calls Tryd.prog 11 #[.slice A2 t c2] W (GotM W {} 10)) := fun W A2 c2 h2 h3 => by
          have := mget_any h2 htl h3 (by omega)
          rw [hm1, mM_bad (by rw [hm1]; simp)] at this
          exact this
        have HG2 : Hid (∀ W A2 c2, Tab W → Sl W A2 c2 (bts (zs ++ [k])) → Calls Tryd.prog 11 #[.slice A2 (q + 1) c2] W (GotM W {} 11)) := fun W A2 c2 h2 h3 => by
          have := mget_any h2 hall h3 (by omega)
          rw [hm2, mM_bad (by rw [hm2]; simp)] at this
          exact this
        obtain ⟨i0, hi, hz0, hz1, hz2⟩ := info_parts infoByte
        have HZ := Lib.hid hz
        have HQ := Lib.hid hq
        have hq0 : (0 : Int) ≤ (q : Int) := by omega
        have hqe : ((q : Int) == 0) = false := by rw [beq_eq_false_iff_ne]; omega
        have htI : (at_ : Int) % (q : Int) = (t : Int) := by rw [← ht]; omega
        have ht0 : (0 : Int) ≤ (t : Int) := by omega
        clear hT hok h1 h2 ho hc hg hz hq ht htl hall hm1 hm2
        go_enter Tryd.func7, Tryd.ntmps7
        go_wp2_with (first
          | (go_at_call 9; refine (awake4_any _ HT.out).mono ?_; rintro e w1 ⟨rfl, m1⟩; have b1 := HB.out.mods m1 (fun h => h); obtain ⟨d0, d1, d2, d3, d4, d5, d6, d7, d8, d9, d10⟩ := b1.mc; have M1 := Lib.hid (M0.out.trans m1); have HT1 := Lib.hid (HT.out.mods m1 (fun h => h)); have I1 := Lib.hid (HI.out.mods m1); clear m1 b1)
          | (go_at_call 15; refine (mput_any (m := m) (L := L) HOK.out HT1.out I1.out HGD.out).mono ?_; rintro e w2 ⟨v2, rfl, o2, m2⟩; rw [HZ.out, HQ.out] at o2; obtain ⟨A2, c2, rfl, -, s2, -⟩ := own_slice o2; have hqc : q ≤ c2 := (by have := s2.le; rw [bts_length, HQ.out] at this; exact this); have hmx := s2.max; unfold maxLen at hmx; have htc : (t : Int) ≤ (c2 : Int) := (by omega); have O2 := Lib.hid o2; have S2 := Lib.hid (by have h := s2.take t; rwa [bts_take] at h); have M2 := Lib.hid (M1.out.trans m2); have HT2 := Lib.hid (HT1.out.mods m2 (fun h => h)); have L12 := Lib.hid m2.size; clear o2 s2 m2 d0 d1 d2 d3 d4 d5 d6 d7 d8 d9 d10)
          | (go_at_call_of 11 (Value.slice A2 t c2); refine (HG1.out _ _ _ HT2.out S2.out).mono ?_; rintro e w3 ⟨L3, rfl, i3, m3⟩; dsimp only [MC]; have mA := m3.alloc (.cells #[.int .i64 0, .int .u64 0, .int .u64 0, .int .i64 0, .int .i64 0, .int .u64 0, .int .u64 0, .int .u64 0, .int .i64 0, .slice L3.Av 0 L3.cv, .slice L3.Ab 0 L3.cb] 32); have M3 := Lib.hid (M2.out.trans mA); have M3' := Lib.hid mA; have HT3 := Lib.hid (HT2.out.mods mA (fun h => h)); clear i3 m3 mA)
          | (at_builtin; refine wpList_append_sl2 _ rfl _ _ 22 rfl w1.heap.size 5 i0 (.int .u8 0) 1 Tryd.underlying22 hi hz0 hz1 hz2 rfl (.slice A2 q c2) q (bts zs) rfl (own_mods O2.out (M3'.out.alloc _) (fun _ _ h => h)) (some ⟨w3.heap.size + 1, 0, none⟩) 1 1 (bts [k]) rfl rfl (build_at (n := 1) (by simp) rfl rfl (by unfold maxLen; omega)) (bts_one _) (by omega) (by unfold maxLen; omega) (by have := L12.out; have := M3'.out.size; simp at this ⊢; omega) ?_; intro v4 w4 hown hgrow hblk hold; have mg : Mods (fun q => (Value.slice A2 q c2).ownBlock = some q) w4 w4 := Mods.refl _ _; clear mg hold; rw [← bts_append] at hown; obtain ⟨A4, c4, rfl, -, s4, -⟩ := own_slice hown; have S4 := Lib.hid s4; have mg := (Mods.refl (fun z => (Value.slice A2 q c2).ownBlock = some z) _).grown hgrow (fun z hz _ => hz); have M4 := Lib.hid ((M3.out.alloc _).nil_trans mg (fun i h => Nat.le_trans M1.out.size (O2.out.lt i h).1)); have HT4 := Lib.hid ((HT3.out.mods ((Mods.refl Nil _).alloc _) (fun h => h)).mods mg (fun h => by have := (O2.out.lt 0 h).1; have := HT1.out.lt; omega)); clear hown hgrow hblk s4 mg)
          | (go_at_call 11; refine (HG2.out _ _ _ HT4.out S4.out).mono ?_; rintro e w5 ⟨L5, rfl, i5, m5⟩; dsimp only [MC]; have M5 := Lib.hid (M4.out.trans m5); clear i5 m5))
        go_ret
        exact ⟨rfl, M5.out.alloc _⟩
      · have HC := Lib.hid hc
        clear hT hi hok h1 h2 ho hc
        go_enter Tryd.func7, Tryd.ntmps7
        go_wp2_with (first
          | (go_at_call 9; refine (awake4_any _ HT.out).mono ?_; rintro e w1 ⟨rfl, m1⟩; have b1 := HB.out.mods m1 (fun h => h); obtain ⟨d0, d1, d2, d3, d4, d5, d6, d7, d8, d9, d10⟩ := b1.mc; have M1 := Lib.hid (M0.out.trans m1); have HT1 := Lib.hid (HT.out.mods m1 (fun h => h)); have I1 := Lib.hid (HI.out.mods m1); clear m1 b1)
          | (go_at_call 15; refine (mput_bad (m := m) (L := L) HOK.out HT1.out HC.out).mono ?_; rintro e w2 ⟨rfl, m2⟩; have M2 := Lib.hid (M1.out.trans m2); clear m2))
        go_ret
        exact ⟨rfl, M2.out⟩
theorem msgCut_walk (w : World) (hT : Tab w) {m : PM} {L : Loc} (hi : In w m L) (hok : m.vec.length ≤ 140737488355328 → m.body.length ≤ 140737488355328 → m.ok) {a2 : Int} (w2 : (Lit.int .u16 a2).wf = true) {a3 : Int} (w3 : (Lit.int .u8 a3).wf = true) :
    Calls Tryd.prog 7 #[.agg (MC m L), .int .u16 a2, .int .u8 a3] w fun e w' => e = .returned (.bool true) ∧ Mods Nil w w' := by
  obtain ⟨k, rfl⟩ := u8_nat4 w3
  have h2 := u16_of_wf w2
  obtain ⟨n2, rfl⟩ := Int.eq_ofNat_of_zero_le h2.1
  exact msgCut_nat w hT hi hok n2 (by omega) k
end Go.Proofs.YtlheaicojmjdpaaDoor
