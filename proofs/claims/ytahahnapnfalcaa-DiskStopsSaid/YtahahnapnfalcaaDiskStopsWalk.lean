/- DiskStops' walk. -/
import Derived.Test.YtahahnapnfalcaaHelp6
namespace Go.Proofs.Ytahahnapnfalcaa
set_option maxRecDepth 1000000
open Go.RowKit
set_option linter.unusedVariables false

/-- Behind so many calls, of which it stops at the k-th. -/
def St (k i : Nat) (d : PD) : Prop := d.L.length = 3 ∧ d.W.length ≤ i ∧ (i ≤ k → d.down = false ∧ d.left = (k : Int) - (i : Int)) ∧ (k < i → d.down = true)
/-- What the i-th call tells. -/
def stE (lt : Bool) : Int := if lt then 0 else 20
theorem St.dn {k i : Nat} {b : Bool} (hb : decide (i < k) = b) {d : PD} (h : St k (i + 1) d) : d.down = !b := by
  obtain ⟨-, -, h1, h2⟩ := h
  by_cases hi : i < k
  · rw [← hb, (h1 hi).1]; simp [hi]
  · rw [← hb, h2 (by omega)]; simp [hi]
theorem St.count {k i : Nat} {b : Bool} (hb : decide (i < k) = b) {d : PD} (h : St k i d) : (d.down = true ∧ b = false ∧ k < i) ∨ (d.down = false ∧ d.count.2 = stE b ∧ St k (i + 1) d.count.1 ∧ d.count.1.L = d.L ∧ d.count.1.W = d.W ∧ (b = true → i < k)) := by
  obtain ⟨h0, hw, h1, h2⟩ := h
  by_cases hi : k < i
  · exact .inl ⟨h2 hi, by rw [← hb]; simp; omega, hi⟩
  · obtain ⟨hd, hl⟩ := h1 (by omega)
    refine .inr ⟨hd, ?_, ?_, d.count_L.1, d.count_L.2, fun e => by rw [e] at hb; simpa using hb⟩
    · unfold PD.count stE
      by_cases hk : i < k
      · rw [if_neg (by omega), ← hb]; simp [hk]
      · rw [if_pos (by omega), ← hb]; simp [hk]
    · unfold PD.count
      by_cases hk : i < k
      · rw [if_neg (by omega), if_pos (by omega)]
        exact ⟨h0, by dsimp only; omega, fun _ => ⟨hd, by dsimp only; omega⟩, fun h => by omega⟩
      · rw [if_pos (by omega)]
        exact ⟨h0, by dsimp only; omega, fun h => by omega, fun _ => rfl⟩
theorem St.mk_next {k i : Nat} {d : PD} (h : St k i d) (hk : k < i) : St k (i + 1) d := ⟨h.1, by have := h.2.1; omega, fun h2 => by omega, fun _ => h.2.2.2 hk⟩
theorem stop_sync {base db k i : Nat} {b : Bool} (hb : decide (i < k) = b) (W : World) (d : PD) (h : DiskAt W base db d) (hs : St k i d) :
    Calls Try.prog 15 #[.pointer (some ⟨db, 0, none⟩)] W fun e w' => e = .returned (.int .i64 (stE b)) ∧ ∃ d', DiskAt w' base db d' ∧ St k (i + 1) d' ∧ DM base W w' := by
  refine (dsync_any h).mono ?_
  rintro e w' ⟨rfl, h1, h2⟩
  rcases hs.count hb with ⟨c1, c2, c3⟩ | ⟨c1, c2, c3, c4, c5, c6⟩
  · have e : d.sync = (d, 20) := by unfold PD.sync; rw [c1]; simp
    rw [e] at h1 ⊢
    exact ⟨by rw [c2]; rfl, d, h1, hs.mk_next c3, h2⟩
  · by_cases hz : d.count.2 = 0
    · have e : d.sync = ({ d.count.1 with L := layAll d.L d.W, W := [] }, 0) := by unfold PD.sync; rw [c1]; simp [hz]
      rw [e] at h1 ⊢
      refine ⟨by rw [← c2, hz], _, h1, ⟨?_, by simp, fun h => c3.2.2.1 h, fun h => c3.2.2.2 h⟩, h2⟩
      show (layAll d.L d.W).length = 3
      rw [layAll_length]
      exact hs.1
    · have e : d.sync = d.count := by unfold PD.sync; rw [c1]; simp [hz]
      rw [e] at h1 ⊢
      exact ⟨by rw [c2], _, h1, c3, h2⟩
theorem stop_write {base db k i : Nat} {b : Bool} (hb : decide (i < k) = b) (W : World) (d : PD) {q : Nat} {g : Nat} {xs : List UInt8} (z : Int) (h : DiskAt W base db d) (hs : St k i d) (hq : z = (q : Int) ∧ q < 3 ∧ i ≤ 40) (hB : Blk W g 5 (bts (fillP xs)).toArray) :
    Calls Try.prog 13 #[.pointer (some ⟨db, 0, none⟩), .int .i64 z, .slice (some ⟨g, 0, none⟩) 64 64] W fun e w' => e = .returned (.int .i64 (stE b)) ∧ ∃ d', DiskAt w' base db d' ∧ St k (i + 1) d' ∧ DM base W w' := by
  obtain ⟨rfl, hq, hi⟩ := hq
  refine (dwrite_any h (by have := hs.2.1; omega) (q : Int) (Bs.blk hB (fillP_length _)) (fillP_length _)).mono ?_
  rintro e w' ⟨rfl, h1, h2⟩
  rcases hs.count hb with ⟨c1, c2, c3⟩ | ⟨c1, c2, c3, c4, c5, c6⟩
  · have ea : d.at_ (q : Int) = 20 := by unfold PD.at_; rw [c1]; simp
    have e : d.write (q : Int) (fillP xs) = (d, 20) := by unfold PD.write; rw [ea]; simp
    rw [e] at h1 ⊢
    exact ⟨by rw [c2]; rfl, d, h1, hs.mk_next c3, h2⟩
  · have ea : d.at_ (q : Int) = 0 := by unfold PD.at_; rw [c1, if_neg (by simp), if_neg (by rw [hs.1]; omega)]
    by_cases hz : d.count.2 = 0
    · have e : d.write (q : Int) (fillP xs) = ({ d.count.1 with W := d.W ++ [(q, fillP xs)] }, 0) := by unfold PD.write; rw [ea]; simp [hz, fillP_length]
      rw [e] at h1 ⊢
      refine ⟨by rw [← c2, hz], _, h1, ⟨c3.1, by simp; exact hs.2.1, fun h => c3.2.2.1 h, fun h => c3.2.2.2 h⟩, h2⟩
    · have e : d.write (q : Int) (fillP xs) = d.count := by unfold PD.write; rw [ea]; simp [hz, fillP_length]
      rw [e] at h1 ⊢
      exact ⟨by rw [c2], _, h1, c3, h2⟩

set_option maxHeartbeats 12800000 in
theorem diskStops_walk (w : World) {z : Int} (hz : (Lit.int .u8 z).wf = true) {A : Option Addr} {c n : Nat} {xs : List UInt8} (hn : xs.length = n) (hs : Sl w A c (bts xs)) :
    Calls Try.prog 5 #[.int .u8 z, .slice A n c] w fun e w' => e = .returned (.bool true) ∧ Mods Nil w w' := by
  obtain ⟨p, rfl⟩ := u8_as hz
  clear hz
  by_cases h1 : 40 < n
  · have h1I : decide ((40 : Int) < (n : Int)) = true := by simp; omega
    clear hn hs
    go_enter Try.func5, Try.ntmps5
    go_wp2_with (go_at_call 9; refine (awake6_any _).mono ?_; rintro e w1 ⟨rfl, m1⟩; have M1 := Lib.hid m1; clear m1)
    go_ret
    exact ⟨rfl, M1.out⟩
  have h1I : decide ((40 : Int) < (n : Int)) = false := by simp; omega
  have hn40 : n ≤ 40 := by omega
  have hp := p.toNat_lt
  obtain ⟨k, hk⟩ : ∃ k, p.toNat % 30 = k := ⟨_, rfl⟩
  have hk30 : k < 30 := by omega
  have hrem : Int.tmod (p.toNat : Int) 30 = (k : Int) := by rw [Int.tmod_eq_emod_of_nonneg (by omega)]; omega
  have hw1 : IntKind.u8.wrap (k : Int) = (k : Int) := by rw [IntKind.wrap_u8']; omega
  have hw2 : IntKind.i64.wrap (k : Int) = (k : Int) := by rw [IntKind.wrap_i64]; omega
  generalize p.toNat = pz at *
  have HN := Lib.hid hn
  have HS := Lib.hid hs
  have HST : Hid (∀ W db, DiskAt W w.heap.size db (live (List.replicate 3 zeros64) []) → Calls Try.prog 17 #[.pointer (some ⟨db, 0, none⟩), .int .i64 (k : Int)] W fun e w' => e = .returned (.tuple #[]) ∧ ∃ d, DiskAt w' w.heap.size db d ∧ St k 0 d ∧ DM w.heap.size W w') := Lib.hid (fun W db h => (dstop_any h (k := (k : Int)) (by omega)).mono (by
    rintro e w' ⟨rfl, h1, h2⟩
    refine ⟨rfl, _, h1, ⟨by simp [PD.stop, live], by simp [PD.stop, live], fun _ => ⟨rfl, ?_⟩, fun h => by omega⟩, h2⟩
    unfold PD.stop
    dsimp only
    rw [if_neg (by omega)]
    omega))
  clear hn hs h1 hk hp
  go_enter Try.func5, Try.ntmps5
  go_wp2_with (first
    | (go_at_call 9; refine (awake6_any _).mono ?_; rintro e w1 ⟨rfl, m1⟩; have M1 := Lib.hid m1; clear m1)
    | (go_at_call 10; refine (lnew w1 (base := w.heap.size) (n := 3) M1.out.size (by omega) (by omega) (by omega)).mono ?_; rintro e w2 ⟨db, rfl, d2, m2⟩; have D2 := Lib.hid d2; have M2 := Lib.hid (M1.out.trans m2); clear d2 m2)
    | (go_at_call 17; refine (HST.out _ _ D2.out).mono ?_; rintro e w3 ⟨rfl, d3, h3, p3, m3⟩; have D3 := Lib.hid h3; have P3 := Lib.hid p3; have M3 := Lib.hid (DM.nilTrans M2.out (Nat.le_refl _) m3); clear h3 p3 m3))
  go_loopw [9] (fun x wr => ∃ (j : Nat), j ≤ n ∧ x = .int .i64 (j : Int) ∧ ∃ d, DiskAt wr w.heap.size db d ∧ St k j d ∧ Mods Nil w wr) (fun x _ => n - (intOf x).toNat)
  case atStart => exact ⟨0, Nat.zero_le _, rfl, d3, D3.out, P3.out, M3.out⟩
  case round =>
    obtain ⟨j, hj, rfl, d, hd, hpp, hmo⟩ := hrel
    have HD := Lib.hid hd
    have HP := Lib.hid hpp
    have HMO := Lib.hid hmo
    clear hd hpp hmo
    by_cases hlt : j < n
    · have hltI : (j : Int) < (n : Int) := by omega
      have hj1 : j + 1 ≤ n := hlt
      have hjx : j < xs.length := by rw [HN.out]; exact hlt
      obtain ⟨bp, offp, rfl, -, -⟩ := HS.out.at_ (by simp; omega)
      have HCP := Lib.hid (bts_get xs j hjx)
      have hy := (xs[j]'hjx).toNat_lt
      generalize (xs[j]'hjx).toNat = y at *
      have hcp : ∀ W, Mods Nil w W → W.cell? ⟨bp, offp + j, none⟩ = some (.int .u8 (y : Int)) := fun W hW => (HS.out.mods hW (fun _ _ h => h)).cells j _ HCP.out
      have cpr := hcp wr HMO.out
      have hand := u8_and3 y
      have hrem3 : Int.tmod (y : Int) 3 = ((y % 3 : Nat) : Int) := by rw [Int.tmod_eq_emod_of_nonneg (by omega)]; omega
      obtain ⟨r, hr⟩ : ∃ r, y % 3 = r := ⟨_, rfl⟩
      have hr3 : r < 3 := by omega
      have hzr : IntKind.i64.wrap ((y : Int) % 3) = (r : Int) := by rw [IntKind.wrap_i64]; omega
      have hj40 : j ≤ 40 := by omega
      clear hr
      clear hjx hy
      by_cases hjk : j < k
      · have hdn : decide (j < k) = true := by simpa using hjk
        have hjkI : decide ((j : Int) < (k : Int)) = true := by simp; omega
        have hjkJ : (j : Int) < (k : Int) := by omega
        have HSY := Lib.hid (stop_sync (base := w.heap.size) (db := db) hdn)
        have HWR := Lib.hid (stop_write (base := w.heap.size) (db := db) hdn)
        by_cases h0 : y % 4 = 0
        · rw [h0] at hand
          go_wp2_with (first
            | (go_at_call 15; refine (HSY.out _ _ HD.out HP.out).mono ?_; rintro e w7 ⟨rfl, d7, hd7, hp7, hm7⟩; have D7 := Lib.hid hd7; have P7 := Lib.hid hp7; have M7 := Lib.hid (DM.nilTrans HMO.out (Nat.le_refl _) hm7); have DN := Lib.hid (ddown_any hd7); rw [St.dn hdn hp7] at DN; clear hd7 hp7 hm7)
            | (go_at_call 24; refine (DN.out).mono ?_; rintro e w8 ⟨rfl, rfl⟩))
          exact ⟨⟨j + 1, hj1, by go_num, d7, D7.out, P7.out, M7.out⟩, by simp [intOf]; omega⟩
        · have h0I : decide (((y % 4 : Nat) : Int) = 0) = false := by simp; omega
          have h0J : decide (y % 4 = 0) = false := by simpa using h0
          go_wp2_with fail
          go_region_held (fun W => Mods Nil w W) (first | exact HMO.out.drew | assumption) (first
            | (go_at_call 12; refine (filled_any (Sl.none_ _) (m := 0) (xs := []) rfl false).mono ?_; rintro e w5 ⟨g5, rfl, b5, s5, m5⟩; have hm5 : Mods Nil w w5 := HMO.out.drew.trans m5; have B5 := Lib.hid b5; have D5 := Lib.hid (HD.out.nil ((Mods.refl Nil wr).drew.trans m5)); clear b5 s5 m5)
            | (go_at_call 13; refine (HWR.out _ _ _ D5.out HP.out (q := r) ⟨rfl, hr3, hj40⟩ B5.out).mono ?_; rintro e w7 ⟨rfl, d7, hd7, hp7, hm7⟩; have D7 := Lib.hid hd7; have P7 := Lib.hid hp7; have M7 : Mods Nil w w7 := (DM.nilTrans hm5 (Nat.le_refl _) hm7); have DN := Lib.hid (ddown_any hd7); rw [St.dn hdn hp7] at DN; clear hd7 hp7 hm7))
          all_goals
            go_wp2_with (go_at_call 24; refine (DN.out).mono ?_; rintro e w8 ⟨rfl, rfl⟩)
            exact ⟨⟨j + 1, hj1, by go_num, d7, D7.out, P7.out, M7⟩, by simp [intOf]; omega⟩
      · have hdn : decide (j < k) = false := by simpa using hjk
        have hjkI : decide ((j : Int) < (k : Int)) = false := by simp; omega
        have hjkJ : (k : Int) ≤ (j : Int) := by omega
        have HSY := Lib.hid (stop_sync (base := w.heap.size) (db := db) hdn)
        have HWR := Lib.hid (stop_write (base := w.heap.size) (db := db) hdn)
        by_cases h0 : y % 4 = 0
        · rw [h0] at hand
          go_wp2_with (first
            | (go_at_call 15; refine (HSY.out _ _ HD.out HP.out).mono ?_; rintro e w7 ⟨rfl, d7, hd7, hp7, hm7⟩; have D7 := Lib.hid hd7; have P7 := Lib.hid hp7; have M7 := Lib.hid (DM.nilTrans HMO.out (Nat.le_refl _) hm7); have DN := Lib.hid (ddown_any hd7); rw [St.dn hdn hp7] at DN; clear hd7 hp7 hm7)
            | (go_at_call 24; refine (DN.out).mono ?_; rintro e w8 ⟨rfl, rfl⟩))
          exact ⟨⟨j + 1, hj1, by go_num, d7, D7.out, P7.out, M7.out⟩, by simp [intOf]; omega⟩
        · have h0I : decide (((y % 4 : Nat) : Int) = 0) = false := by simp; omega
          have h0J : decide (y % 4 = 0) = false := by simpa using h0
          go_wp2_with fail
          go_region_held (fun W => Mods Nil w W) (first | exact HMO.out.drew | assumption) (first
            | (go_at_call 12; refine (filled_any (Sl.none_ _) (m := 0) (xs := []) rfl false).mono ?_; rintro e w5 ⟨g5, rfl, b5, s5, m5⟩; have hm5 : Mods Nil w w5 := HMO.out.drew.trans m5; have B5 := Lib.hid b5; have D5 := Lib.hid (HD.out.nil ((Mods.refl Nil wr).drew.trans m5)); clear b5 s5 m5)
            | (go_at_call 13; refine (HWR.out _ _ _ D5.out HP.out (q := r) ⟨rfl, hr3, hj40⟩ B5.out).mono ?_; rintro e w7 ⟨rfl, d7, hd7, hp7, hm7⟩; have D7 := Lib.hid hd7; have P7 := Lib.hid hp7; have M7 : Mods Nil w w7 := (DM.nilTrans hm5 (Nat.le_refl _) hm7); have DN := Lib.hid (ddown_any hd7); rw [St.dn hdn hp7] at DN; clear hd7 hp7 hm7))
          all_goals
            go_wp2_with (go_at_call 24; refine (DN.out).mono ?_; rintro e w8 ⟨rfl, rfl⟩)
            exact ⟨⟨j + 1, hj1, by go_num, d7, D7.out, P7.out, M7⟩, by simp [intOf]; omega⟩
    · obtain rfl : j = n := by omega
      have HC : Hid (Calls Try.prog 19 #[.pointer (some ⟨db, 0, none⟩), .slice none 0 0] wr fun e w' => e = .returned (.tuple #[]) ∧ DiskAt w' w.heap.size db (live (crashL d.L d.W []) []) ∧ DM w.heap.size wr w') := Lib.hid (dcrash_any HD.out (pick := []) ⟨Sl.none_ _, fun h => absurd rfl h⟩ rfl)
      go_wp2_with (first
        | (go_at_call_of 19 (Value.pointer (some ⟨db, 0, none⟩)); refine (HC.out).mono ?_; rintro e w4 ⟨rfl, d4, m4⟩; have D4 := Lib.hid d4; have M4 := Lib.hid (DM.nilTrans HMO.out (Nat.le_refl _) m4); clear d4 m4)
        | (go_at_call_of 17 (Value.pointer none); refine (dstop_none _ _).mono ?_; rintro e w5 ⟨rfl, rfl⟩)
        | (go_at_call_of 19 (Value.pointer none); refine (dcrash_none _ _).mono ?_; rintro e w6 ⟨rfl, rfl⟩)
        | (go_at_call_of 23 (Value.pointer none); refine (dread_none _ _).mono ?_; rintro e w7 ⟨rfl, rfl⟩)
        | (go_at_call_of 24 (Value.pointer (some ⟨db, 0, none⟩)); refine (ldown D4.out).mono ?_; rintro e w8 ⟨rfl, rfl⟩)
        | (go_at_call_of 15 (Value.pointer (some ⟨db, 0, none⟩)); refine (lsync D4.out).mono ?_; rintro e w9 ⟨rfl, d9, m9⟩; have M9 := Lib.hid (DM.nilTrans M4.out (Nat.le_refl _) m9); clear d9 m9)
        | (go_at_call_of 13 (Value.pointer none); refine (dwrite_none _ _ _).mono ?_; rintro e w10 ⟨rfl, rfl⟩)
        | (go_at_call_of 15 (Value.pointer none); refine (dsync_none _).mono ?_; rintro e w11 ⟨rfl, rfl⟩)
        | (go_at_call_of 25 (Value.pointer none); refine (dlen_none _).mono ?_; rintro e w12 ⟨rfl, rfl⟩)
        | (go_at_call_of 22 (Value.pointer none); refine (dwaits_none _).mono ?_; rintro e w13 ⟨rfl, rfl⟩)
        | (go_at_call_of 24 (Value.pointer none); refine (ddown_none _).mono ?_; rintro e w14 ⟨rfl, rfl⟩))
      go_ret
      exact ⟨rfl, M9.out⟩
end Go.Proofs.Ytahahnapnfalcaa
