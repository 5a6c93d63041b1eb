/- Package segment: lay, walked. -/
import Derived.Test.YtgebcpfgihcoiaaSgm6
import Derived.Test.YtgebcpfgihcoiaaSumsM
import Derived.Deep.RegionHeldLaw
namespace Go.Proofs.Ytgebcpfgihcoiaa
set_option maxRecDepth 100000
open Go.RowKit
set_option linter.unusedVariables false

theorem infoSB4 {l : List UInt8} (h : l.length = 64) : (Try.prog.info? 94).map (·.size) = some (bts l).toArray.size := by simpa [h] using infoSB2
theorem bts_all (l : List UInt8) : (bts l).toArray.all (·.oneCell') = true := all_oneCell_toArray (bts_one l)
set_option maxHeartbeats 6400000 in
theorem slay_in {w : World} {base db sb mb : Nat} {s : PSeg} (h : SegIn w base sb db mb s) {A : Option Addr} {c n : Nat} {r : List UInt8} (hs : Sl w A c (bts r)) (hn : r.length = n) (hn4 : n ≤ 4096) {k pl : Nat} (hk : k < needP n) (hpl : pl ≤ 1000000) :
    Calls Try.prog 42 #[.pointer (some ⟨sb, 0, none⟩), .int .i64 (pl : Int), .int .i64 (k : Int), .slice A n c] w fun e w' => e = .returned (.agg (bts (blockP s.epoch pl k (needP n) (partP r k))).toArray) ∧ Mods Nil w w' := by
  obtain ⟨q, hq⟩ : ∃ q, (partP r k).length = q := ⟨_, rfl⟩
  have hql := partP_length r k
  rw [hq, hn] at hql
  have hq45 : q ≤ 45 := by omega
  have h92 := needP_le hn4
  have hkn : 45 * k ≤ n := by
    rcases Nat.eq_zero_or_pos k with rfl | h0
    · omega
    · have := needP_some n k hk h0; omega
  obtain ⟨A1, c1, S1, hs1⟩ := cut_run (lo := 45 * k) (hi := 45 * k + q) hs hn (by omega) (by omega)
  rw [show 45 * k + q - 45 * k = q by omega] at S1 hs1
  have hpart : (r.drop (45 * k)).take q = partP r k := by
    unfold partP
    rw [hql]
    rcases Nat.le_total 45 (n - 45 * k) with h | h
    · rw [Nat.min_eq_left h]
    · rw [Nat.min_eq_right h, List.take_of_length_le (by simp [hn]), List.take_of_length_le (by simp [hn]; omega)]
  rw [hpart] at hs1
  have HS1 := Lib.hid hs1
  obtain ⟨lo, hlo⟩ : ∃ lo, 45 * k = lo := ⟨_, rfl⟩
  obtain ⟨hi, hhi⟩ : ∃ hi, lo + q = hi := ⟨_, rfl⟩
  rw [hlo, hhi] at S1
  obtain ⟨h1, hh1⟩ : ∃ h1, lo + 45 = h1 := ⟨_, rfl⟩
  have wlo : IntKind.i64.wrap ((k : Int) * 45) = (lo : Int) := by rw [IntKind.wrap_i64]; omega
  have wk1 : IntKind.i64.wrap ((k : Int) + 1) = (k : Int) + 1 := by rw [IntKind.wrap_i64]; omega
  have whi : IntKind.i64.wrap (((k : Int) + 1) * 45) = (h1 : Int) := by rw [IntKind.wrap_i64]; omega
  have hmin : ∀ (ts : Array TypeId) (t : TypeId) (W : World), (Builtin.min_ ts t #[.int .i64 (h1 : Int), .int .i64 (n : Int)]).run Try.prog W = .ok (.int .i64 (hi : Int)) W := fun ts t W => by
    rw [run_min_int2]
    congr 2
    split <;> omega
  have he := h.ok.epoch
  obtain ⟨p1, hp1⟩ : ∃ p, pl + 1 = p := ⟨_, rfl⟩
  have hp1I : (pl : Int) + 1 = (p1 : Int) := by omega
  have wp1 : IntKind.i64.wrap (p1 : Int) = (p1 : Int) := by rw [IntKind.wrap_i64]; omega
  have wp2 : IntKind.u32.wrap (p1 : Int) = (p1 : Int) := by rw [IntKind.wrap_u32]; omega
  have HP1 := Lib.hid (show p1 < 4294967296 by omega)
  obtain ⟨ku, hku⟩ : ∃ u, UInt8.ofNat k = u := ⟨_, rfl⟩
  obtain ⟨mu, hmu⟩ : ∃ u, UInt8.ofNat (needP n) = u := ⟨_, rfl⟩
  obtain ⟨qu, hqu⟩ : ∃ u, UInt8.ofNat q = u := ⟨_, rfl⟩
  have hwk : IntKind.u8.wrap (k : Int) = (ku.toNat : Int) := by rw [← hku, IntKind.wrap_u8']; simp
  have hwm : IntKind.u8.wrap ((needP n : Nat) : Int) = (mu.toNat : Int) := by rw [← hmu, IntKind.wrap_u8']; simp
  have hwq : IntKind.u8.wrap (q : Int) = (qu.toNat : Int) := by rw [← hqu, IntKind.wrap_u8']; simp
  have h4 : Hid (∀ V, Mods Nil w V → V.cell? ⟨sb, 4, none⟩ = some (.int .u32 (s.epoch : Int))) := Lib.hid (fun V hm => (h.nil hm).cells.2.2.2.2.1)
  have hL1 : (l1P s.epoch).length = 64 := by unfold l1P; rw [set4_length]; rfl
  have hL2 : (l2P s.epoch pl).length = 64 := by unfold l2P; rw [set4_length]; exact hL1
  have hP45 : (partP r k).length ≤ 45 := by omega
  have HL2' := Lib.hid hL2
  rw [show l2P s.epoch pl = set4 (l1P s.epoch) 4 p1 by unfold l2P; rw [hp1]] at hL2
  have HL1 := Lib.hid hL1
  have HL2 := Lib.hid hL2
  have HQ := Lib.hid hq
  have HEP := Lib.hid he
  have hl5 : ((((set4 (l1P s.epoch) 4 p1).set 8 ku).set 9 mu).set 10 qu) = l5P s.epoch pl k (needP n) q := by
    unfold l5P l2P
    rw [hp1, hku, hmu, hqu]
  have HN6 : Hid (((bts ((((set4 (l1P s.epoch) 4 p1).set 8 ku).set 9 mu).set 10 qu)).toArray.toList.take 11 ++ bts (partP r k) ++ (bts ((((set4 (l1P s.epoch) 4 p1).set 8 ku).set 9 mu).set 10 qu)).toArray.toList.drop (11 + q)).toArray = (bts (l6P s.epoch pl k (needP n) (partP r k))).toArray) := by
    show _ = _
    rw [hl5]
    congr 1
    unfold l6P
    rw [hq, bts_append, bts_append, bts_take, bts_drop]
  have HL5 : Hid ((bts ((((set4 (l1P s.epoch) 4 p1).set 8 ku).set 9 mu).set 10 qu)).toArray.size = 64) := by
    show _ = _
    rw [hl5]
    simp [l5P_length]
  have HP45 := Lib.hid hP45
  have HN4 := Lib.hid hn4
  clear h hs hn hn4 hk hql h92 hkn hs1 hpart he hL1 hL2 hP45 hq hlo hhi hp1 hh1 hku hmu hqu hl5
  go_enter Try.func42, Try.ntmps42
  go_wp2_with (first
    | (refine gw_alloc_sb rfl rfl ?_; intro W2 b9 m9 s9; have HB2 := Lib.hid b9; have M2 := Lib.hid (M1.out.trans m9); have G02 := Lib.hid (G01.out.mods m9 (fun h => h)); have c4 := h4.out _ M2.out; have hne : w.heap.size ≠ W1.heap.size := (by have := S1z.out; omega); have hnb : Hid (∀ i, i = W1.heap.size → w.heap.size ≤ i) := Lib.hid (fun i hi => by have := S1z.out; omega); clear b9 m9 s9)
    | (refine gw_alloc_sb rfl rfl ?_; intro W1 b8 m8 s8; have G01 := Lib.hid b8; have M1 := Lib.hid m8; have S1z := Lib.hid s8; clear b8 m8 s8)
    | (refine wpList_copy_mk rfl (.tmp 42) (.tmp 43) 42 42 rfl 5 Try.underlying42 infoU8s W1.heap.size 11 53 53 94 (bts ((((set4 (l1P s.epoch) 4 p1).set 8 ku).set 9 mu).set 10 qu)).toArray (bts (l6P s.epoch pl k (needP n) (partP r k))).toArray rfl B7.out A1 q c1 (bts (partP r k)) rfl (HS1.out.mods M7.out (fun _ _ h => h)) (by rw [bts_length]; exact HQ.out) (bts_one _) (by omega) (by rw [HL5.out]; omega) HN6.out ?_; intro W8 b9 m9; have B8 := Lib.hid b9; have M8 := Lib.hid (M7.out.nil_trans m9 hnb.out); have G8 := Lib.hid (G7.out.mods m9 hne); have c4W8 := h4.out _ M8.out; clear b9 m9)
    | (refine gw_store_u8 rfl 5 (.tmp 41) (.tmp 40) rfl rfl infoU8s W1.heap.size 10 rfl qu rfl 94 _ B6.out (by simp [set4_length, zeros64]) ?_; intro W7 b9 m9; have B7 := Lib.hid b9; have M7 := Lib.hid (M6.out.nil_trans m9 hnb.out); have G7 := Lib.hid (G6.out.mods m9 hne); have c4W7 := h4.out _ M7.out; clear b9 m9)
    | (refine gw_store_u8 rfl 5 (.tmp 37) (.tmp 36) rfl rfl infoU8s W1.heap.size 9 rfl mu rfl 94 _ B5.out (by simp [set4_length, zeros64]) ?_; intro W6 b9 m9; have B6 := Lib.hid b9; have M6 := Lib.hid (M5.out.nil_trans m9 hnb.out); have G6 := Lib.hid (G5.out.mods m9 hne); have c4W6 := h4.out _ M6.out; clear b9 m9)
    | (go_at_call 34; refine (sneed_any W5 n (by have := HN4.out; omega)).mono ?_; rintro e W5b ⟨rfl, rfl⟩)
    | (refine gw_store_u8 rfl 5 (.tmp 32) (.tmp 31) rfl rfl infoU8s W1.heap.size 8 rfl ku rfl 94 _ B4.out (by simp [set4_length, zeros64]) ?_; intro W5 b9 m9; have B5 := Lib.hid b9; have M5 := Lib.hid (M4.out.nil_trans m9 hnb.out); have G5 := Lib.hid (G4.out.mods m9 hne); have c4W5 := h4.out _ M5.out; clear b9 m9)
    | (go_at_call 68; refine (sput_any B3.out HL1.out (k := 4) (x := p1) (by omega) HP1.out).mono ?_; rintro e W4 ⟨rfl, b9, m9⟩; have B4 := Lib.hid b9; have M4 := Lib.hid (M3.out.nil_trans m9 hnb.out); have G4 := Lib.hid (G3.out.mods m9 hne); have c4W4 := h4.out _ M4.out; clear b9 m9)
    | (go_at_call 68; refine (sput_any HB2.out rfl (k := 0) (x := s.epoch) (by omega) HEP.out).mono ?_; rintro e W3 ⟨rfl, b9, m9⟩; have B3 := Lib.hid b9; have M3 := Lib.hid (M2.out.nil_trans m9 hnb.out); have G3 := Lib.hid (G02.out.mods m9 hne); have c4W3 := h4.out _ M3.out; clear b9 m9))
  have SL8 := Lib.hid (show Sl W8.drew (some ⟨W1.heap.size, 0, none⟩) 64 (bts (bodyP s.epoch pl k (needP n) (partP r k))) from by
    have := blk_sl B8.out.drew (l6P_length HP45.out) 56
    rw [l6P_take HP45.out] at this
    exact this)
  have HBL := Lib.hid (bodyP_length (e := s.epoch) (pl := pl) (k := k) (m := needP n) HP45.out)
  have HSL : Hid ((bts (sealedOf (bodyP s.epoch pl k (needP n) (partP r k)))).length = 60) := by
    show _ = _
    rw [bts_length, sealedOf_length, HBL.out]
  have HN9 : Hid (((bts (l6P s.epoch pl k (needP n) (partP r k))).toArray.toList.take 0 ++ bts (sealedOf (bodyP s.epoch pl k (needP n) (partP r k))) ++ (bts (l6P s.epoch pl k (needP n) (partP r k))).toArray.toList.drop (0 + 60)).toArray = (bts (sealedOf (bodyP s.epoch pl k (needP n) (partP r k)) ++ (l6P s.epoch pl k (needP n) (partP r k)).drop 60)).toArray) := by
    show _ = _
    congr 1
    rw [bts_append, ← bts_drop]
    simp
  have HF64 : Hid ((sealedOf (bodyP s.epoch pl k (needP n) (partP r k)) ++ (l6P s.epoch pl k (needP n) (partP r k)).drop 60).length = 64) := by
    show _ = _
    rw [List.length_append, sealedOf_length, HBL.out, List.length_drop, l6P_length HP45.out]
  have HS64 : Hid ((bts (l6P s.epoch pl k (needP n) (partP r k))).toArray.size = 64) := by
    show _ = _
    simp [l6P_length HP45.out]
  go_region_held_law (fun _ => True) (trivial) (first
    | (rw [if_pos (by rfl)]; refine wp_copy_mk (.tmp 45) (.tmp 47) 42 42 rfl 5 Try.underlying42 infoU8s W1.heap.size 0 64 64 94 (bts (l6P s.epoch pl k (needP n) (partP r k))).toArray (bts (sealedOf (bodyP s.epoch pl k (needP n) (partP r k)) ++ (l6P s.epoch pl k (needP n) (partP r k)).drop 60)).toArray rfl B9.out A9 60 c9 (bts (sealedOf (bodyP s.epoch pl k (needP n) (partP r k)))) rfl S9.out HSL.out (bts_one _) (by omega) (by rw [HS64.out]; omega) HN9.out ?_; intro W10 b9 m9; have B10 := Lib.hid b9; have M10 := Lib.hid (M9.out.nil_trans m9 hnb.out); have G10 := Lib.hid (G9.out.mods m9 hne); have c4W10 := h4.out _ M10.out; clear b9 m9)
    | (go_at_call 69; refine (sealed_to (n := 56) (m := 60) HBL.out rfl (by omega) SL8.out).mono ?_; rintro e W9 ⟨A9, c9, rfl, s9, x1, x2, x3, m9⟩; have S9 := Lib.hid s9; have B9 := Lib.hid (B8.out.mods m9.of_drew (fun h => h)); have M9 := Lib.hid (M8.out.trans m9.of_drew); have G9 := Lib.hid (G8.out.mods m9.of_drew (fun h => h)); clear s9 x1 x2 x3 m9))
  all_goals
    go_wp2_with (first
      | (go_at_call 68; refine (sput_any B10.out HF64.out (k := 60) (x := s.epoch) (by omega) HEP.out).mono ?_; rintro e W11 ⟨rfl, b9, m9⟩; have B11 := Lib.hid b9; have M11 := Lib.hid (M10.out.nil_trans m9 hnb.out); have G11 := Lib.hid (G10.out.mods m9 hne); clear b9 m9)
      | (refine gw_load_mid (by rfl) 94 _ rfl W1.heap.size 0 rfl (bts (set4 (sealedOf (bodyP s.epoch pl k (needP n) (partP r k)) ++ (l6P s.epoch pl k (needP n) (partP r k)).drop 60) 60 s.epoch)) _ (blk_range B11.out) Try.underlying94 rfl (infoSB3 (by rw [set4_length]; exact HF64.out)) ?_)
      | (refine wpList_store_mk rfl 94 (.tmp 8) (.tmp 54) rfl rfl w.heap.size rfl 94 (bts zeros64).toArray (bts (set4 (sealedOf (bodyP s.epoch pl k (needP n) (partP r k)) ++ (l6P s.epoch pl k (needP n) (partP r k)).drop 60) 60 s.epoch)).toArray rfl G11.out (by simp [set4_length, HF64.out, zeros64]) (bts_all _) (infoSB4 (by rw [set4_length]; exact HF64.out)) rfl ?_; intro W12 b9 m9; have G12 := Lib.hid b9; have M12 := Lib.hid (M11.out.nil_trans m9 (fun i hi => by omega)); clear b9 m9))
    refine bodyPost_ret (results_cell_row rfl _ _ w.heap.size 94 (bts (set4 (sealedOf (bodyP s.epoch pl k (needP n) (partP r k)) ++ (l6P s.epoch pl k (needP n) (partP r k)).drop 60) 60 s.epoch)).toArray (0, 0) _ rfl G12.out Try.underlying94 rfl (infoSB4 (by rw [set4_length]; exact HF64.out))) rfl ?_
    refine ⟨?_, M12.out⟩
    rw [l7P_eq HP45.out]
end Go.Proofs.Ytgebcpfgihcoiaa
