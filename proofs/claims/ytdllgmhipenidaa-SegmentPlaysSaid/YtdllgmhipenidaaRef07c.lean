/- The reference of layer 7: take. -/
import Derived.Test.YtdllgmhipenidaaRef07a
import Derived.Test.YtdllgmhipenidaaRef06A
import Derived.Test.YtdllgmhipenidaaSgmE
import Derived.Deep.DeepCutAuto
namespace Go.Proofs.Ytdllgmhipenidaa
set_option maxRecDepth 100000
open Go.RowKit
set_option linter.unusedVariables false

theorem index_byteP (b : List UInt8) (i : Nat) (h : i < b.length) (z : Int) (hz : z = (i : Int)) (W : World) : (Instr.index 9 (.string (strOf b)) (.int .i64 z)).run Try.prog W = .ok (.int .u8 (byteP b i : Nat)) W := by
  subst hz
  rw [index_strOf W b i h]
  unfold byteP
  simp [List.getD_eq_getElem?_getD, h]
theorem numP_drop (b : List UInt8) (k : Nat) : numP (b.drop k) 0 = numP b k := by
  unfold numP byteP
  simp [List.getD_eq_getElem?_getD, List.getElem?_drop]
theorem fits_data {b : List UInt8} {x pl i m : Nat} (h : fitsP b x pl i m = true) : (dataP b).length ≤ 45 := by
  unfold fitsP at h
  simp only [Bool.and_eq_true, decide_eq_true_eq] at h
  have := h.1.2.1
  unfold dataP
  simp
  omega
def takeV : Option (List UInt8 × Nat × Nat) → Value
  | none => .tuple #[.string ⟨#[]⟩, .int .i64 0, .int .u64 0]
  | some (b, m, x) => .tuple #[.string (strOf b), .int .i64 (m : Int), .int .u64 (x : Int)]
theorem takeP_no {l : List (List UInt8)} {p pl e : Nat} (h : ¬ (p < l.length ∧ rightP (l.getD p []) = true ∧ 1 ≤ byteP (l.getD p []) 9 ∧ byteP (l.getD p []) 9 ≤ 92 ∧ e ≤ numP (l.getD p []) 0 ∧ p + byteP (l.getD p []) 9 ≤ l.length ∧
      (∀ i, i < byteP (l.getD p []) 9 → fitsP (l.getD (p + i) []) (numP (l.getD p []) 0) pl i (byteP (l.getD p []) 9) = true))) : takeP l p pl e = none := by
  unfold takeP
  rw [if_neg h]
set_option maxHeartbeats 51200000 in
theorem rtake_any (w : World) {A : Option Addr} {c n : Nat} {L : List (List UInt8)} (hs : Sl w A c (strs L)) (hn : L.length = n) (h64 : ∀ b ∈ L, b.length = 64) (hn1 : n ≤ 100000) {p pl e : Nat} (hp : p ≤ 100000) (hpl : pl ≤ 100000) (he : e < 4294967296) :
    Calls Try.prog 69 #[.slice A n c, .int .i64 (p : Int), .int .i64 (pl : Int), .int .u64 (e : Int)] w fun r w' => r = .returned (takeV (takeP L p pl e)) ∧ Mods Nil w w' := by
  by_cases h1 : n ≤ p
  · have h1I : (n : Int) ≤ (p : Int) := by omega
    rw [takeP_no (by omega)]
    clear hs hn h64
    go_enter Try.func69, Try.ntmps69
    go_wp2_with fail
    refine bodyPost_ret (v := .tuple #[.string ⟨#[]⟩, .int .i64 0, .int .u64 0]) (by simp [results, Try.results69, go_sem]) rfl ⟨rfl, by first | exact Mods.refl _ _ | exact (Mods.refl _ _).drew⟩
  have h1I : (p : Int) < (n : Int) := by omega
  have hpL : p < L.length := by omega
  obtain ⟨bA, offA, rfl, -, hc⟩ := hs.at_ (by rw [strs_length]; omega)
  have HCC := Lib.hid hc
  obtain ⟨b0, hb0⟩ : ∃ b0, L[p] = b0 := ⟨_, rfl⟩
  have hg0 : L.getD p [] = b0 := by rw [List.getD_eq_getElem?_getD, List.getElem?_eq_getElem hpL, hb0]; rfl
  have hl0 : b0.length = 64 := by rw [← hb0]; exact h64 _ (List.getElem_mem hpL)
  have c0 : w.cell? ⟨bA, offA + p, none⟩ = some (.string (strOf b0)) := hc p _ (strs_at (by rw [List.getElem?_eq_getElem hpL, hb0]))
  have HR := Lib.hid (fun W => r7right_any W hl0)
  have HT := Lib.hid (fun h => takeP_no (l := L) (p := p) (pl := pl) (e := e) h)
  rw [hg0, hn] at HT
  clear hb0 hc
  cases hr : rightP b0 with
  | false =>
    rw [HT.out (by rw [hr]; simp)]
    rw [hr] at HR
    clear HT HCC hs hn h64 hg0 hl0 hr h1 hpL
    go_enter Try.func69, Try.ntmps69
    go_wp2_with (go_at_call 118; refine (HR.out _).mono ?_; rintro r w2 ⟨rfl, m2⟩; have M2 := Lib.hid m2; have c2 := (World.cell?_of_block (m2.block bA (World.block_lt_of_cell? w _ c0) (fun h => h))).trans c0; clear m2)
    refine bodyPost_ret (v := .tuple #[.string ⟨#[]⟩, .int .i64 0, .int .u64 0]) (by simp [results, Try.results69, go_sem]) rfl ⟨rfl, ?_⟩
    first | exact M2.out | exact M2.out.drew | exact M2.out.drewN _ | exact (M2.out.drewN _).drewN _ | exact (M2.out.drewN _).drew
  | true =>
    rw [hr] at HR
    obtain ⟨m, hm⟩ : ∃ m, byteP b0 9 = m := ⟨_, rfl⟩
    obtain ⟨x, hx⟩ : ∃ x, numP b0 0 = x := ⟨_, rfl⟩
    have HYES : Hid (1 ≤ m → m ≤ 92 → e ≤ x → p + m ≤ L.length → (∀ j, j < m → fitsP (L.getD (p + j) []) x pl j m = true) → takeP L p pl e = some (joinP L p m, m, x)) := Lib.hid (fun h1 h2 h3 h4 h5 => by
      unfold takeP
      rw [hg0, hm, hx, if_pos ⟨hpL, hr, h1, h2, h3, h4, h5⟩])
    have i9 := fun W => index_byteP b0 9 (by omega) 9 rfl W
    have hm256 : (m : Int) < 256 := by have := byteP_lt b0 9; omega
    have HNUM := Lib.hid (fun W => rnumber_q W hl0 (by omega))
    rw [hm] at i9
    rw [hm, hx] at HT
    rw [hx] at HNUM
    have hx32 : x < 4294967296 := by rw [← hx]; exact numP_lt b0 0
    have go2 : ∀ {w2 : World}, Mods Nil w w2 → w2.cell? ⟨bA, offA + p, none⟩ = some (.string (strOf b0)) := fun m2 => (World.cell?_of_block (m2.block bA (World.block_lt_of_cell? w _ c0) (fun h => h))).trans c0
    have GO2 : Hid (∀ {w2 : World}, Mods Nil w w2 → w2.cell? ⟨bA, offA + p, none⟩ = some (.string (strOf b0))) := Lib.hid (fun h => go2 h)
    have HS := Lib.hid hs
    clear go2 hr
    by_cases hm1 : m < 1
    · have hm1I : (m : Int) < 1 := by omega
      rw [HT.out (by omega)]
      clear HT HCC hs hn h64 hg0 hl0 h1 hpL hm hx hm1
      go_enter Try.func69, Try.ntmps69
      go_wp2_with (go_at_call 118; refine (HR.out _).mono ?_; rintro r w2 ⟨rfl, m2⟩; have M2 := Lib.hid m2; have c2 := GO2.out m2; clear m2)
      refine bodyPost_ret (v := .tuple #[.string ⟨#[]⟩, .int .i64 0, .int .u64 0]) (by simp [results, Try.results69, go_sem]) rfl ⟨rfl, ?_⟩
      first | exact M2.out | exact M2.out.drew | exact M2.out.drewN _ | exact (M2.out.drewN _).drewN _ | exact (M2.out.drewN _).drew
    have hm1I : (1 : Int) ≤ (m : Int) := by omega
    by_cases hm2 : 92 < m
    · have hm2I : (92 : Int) < (m : Int) := by omega
      rw [HT.out (by omega)]
      clear HT HCC hs hn h64 hg0 hl0 h1 hpL hm hx hm1 hm2
      go_enter Try.func69, Try.ntmps69
      go_wp2_with (go_at_call 118; refine (HR.out _).mono ?_; rintro r w2 ⟨rfl, m2⟩; have M2 := Lib.hid m2; have c2 := GO2.out m2; clear m2)
      refine bodyPost_ret (v := .tuple #[.string ⟨#[]⟩, .int .i64 0, .int .u64 0]) (by simp [results, Try.results69, go_sem]) rfl ⟨rfl, ?_⟩
      first | exact M2.out | exact M2.out.drew | exact M2.out.drewN _ | exact (M2.out.drewN _).drewN _ | exact (M2.out.drewN _).drew
    have hm2I : (m : Int) ≤ 92 := by omega
    by_cases hxe : x < e
    · have hxeI : (x : Int) < (e : Int) := by omega
      rw [HT.out (by omega)]
      clear HT HCC hs hn h64 hg0 hl0 h1 hpL hm hx hm1 hm2 hxe
      go_enter Try.func69, Try.ntmps69
      go_wp2_with (first
        | (go_at_call 118; refine (HR.out _).mono ?_; rintro r w2 ⟨rfl, m2⟩; have M2 := Lib.hid m2; have c2 := GO2.out m2; clear m2)
        | (go_at_call 68; refine (HNUM.out _).mono ?_; rintro r w3 ⟨rfl, k3, rfl⟩; have M3 := Lib.hid (M2.out.drewN k3)))
      refine bodyPost_ret (v := .tuple #[.string ⟨#[]⟩, .int .i64 0, .int .u64 0]) (by simp [results, Try.results69, go_sem]) rfl ⟨rfl, ?_⟩
      first | exact M3.out | exact M3.out.drew | exact M3.out.drewN _
    have hxeI : (e : Int) ≤ (x : Int) := by omega
    have hpm : IntKind.i64.wrap ((p : Int) + (m : Int)) = (p : Int) + (m : Int) := by rw [IntKind.wrap_i64]; omega
    by_cases hfit : n < p + m
    · have hfitI : (n : Int) < (p : Int) + (m : Int) := by omega
      rw [HT.out (by omega)]
      clear HT HCC hs hn h64 hg0 hl0 h1 hpL hm hx hm1 hm2 hxe hfit
      go_enter Try.func69, Try.ntmps69
      go_wp2_with (first
        | (go_at_call 118; refine (HR.out _).mono ?_; rintro r w2 ⟨rfl, m2⟩; have M2 := Lib.hid m2; have c2 := GO2.out m2; clear m2)
        | (go_at_call 68; refine (HNUM.out _).mono ?_; rintro r w3 ⟨rfl, k3, rfl⟩; have M3 := Lib.hid (M2.out.drewN k3)))
      refine bodyPost_ret (v := .tuple #[.string ⟨#[]⟩, .int .i64 0, .int .u64 0]) (by simp [results, Try.results69, go_sem]) rfl ⟨rfl, ?_⟩
      first | exact M3.out | exact M3.out.drew | exact M3.out.drewN _
    have hfitI : (p : Int) + (m : Int) ≤ (n : Int) := by omega
    go_enter Try.func69, Try.ntmps69
    go_wp2_with (first
      | (go_at_call 118; refine (HR.out _).mono ?_; rintro r w2 ⟨rfl, m2⟩; have M2 := Lib.hid m2; have c2 := GO2.out m2; clear m2)
      | (go_at_call 68; refine (HNUM.out _).mono ?_; rintro r w3 ⟨rfl, k3, rfl⟩; have M3 := Lib.hid (M2.out.drewN k3)))
    have HN := Lib.hid hn
    have H64 := Lib.hid h64
    clear hn h64 hs hg0 hl0 hm hx HNUM HR GO2 i9 h1 hm1 hm2 hxe hfit
    go_loopw [14, 15] (fun s k wr => ∃ (i : Nat), i ≤ m ∧ k = .int .i64 (i : Int) ∧ s = .string (strOf (joinP L p i)) ∧ (∀ j, j < i → fitsP (L.getD (p + j) []) x pl j m = true) ∧ Mods Nil w wr) (fun _ k _ => m - (intOf k).toNat)
    case atStart => exact ⟨0, Nat.zero_le _, rfl, rfl, (fun j hj => by omega), by first | exact M3.out | exact M3.out.drewN _⟩
    case round =>
      obtain ⟨i, hi, rfl, rfl, hfits, hmo⟩ := hrel
      have HF := Lib.hid hfits
      have HMO := Lib.hid hmo
      clear hfits hmo
      by_cases hlt : i < m
      · have hltI : (i : Int) < (m : Int) := by omega
        obtain ⟨u, hu⟩ : ∃ u, p + i = u := ⟨_, rfl⟩
        have huI : (p : Int) + (i : Int) = (u : Int) := by omega
        have hun : u < n := by omega
        have hunI : (u : Int) < (n : Int) := by omega
        have hwu : IntKind.i64.wrap (u : Int) = (u : Int) := by rw [IntKind.wrap_i64]; omega
        have huL : u < L.length := by rw [HN.out]; exact hun
        obtain ⟨b, hb⟩ : ∃ b, L[u] = b := ⟨_, rfl⟩
        have hgu : L.getD (p + i) [] = b := by rw [hu, List.getD_eq_getElem?_getD, List.getElem?_eq_getElem huL, hb]; rfl
        have hl : b.length = 64 := by rw [← hb]; exact H64.out _ (List.getElem_mem huL)
        have cw : w.cell? ⟨bA, offA + u, none⟩ = some (.string (strOf b)) := HCC.out u _ (strs_at (by rw [List.getElem?_eq_getElem huL, hb]))
        have c1 := (World.cell?_of_block (HMO.out.block bA (World.block_lt_of_cell? w _ cw) (fun h => h))).trans cw
        have HC1 : Hid (∀ {w2 : World}, Mods Nil wr w2 → w2.cell? ⟨bA, offA + u, none⟩ = some (.string (strOf b))) := Lib.hid (fun h => (World.cell?_of_block (h.block bA (World.block_lt_of_cell? wr _ c1) (fun h => h))).trans c1)
        obtain ⟨q, hq⟩ : ∃ q, byteP b 10 = q := ⟨_, rfl⟩
        have i10 := fun W => index_byteP b 10 (by omega) 10 rfl W
        rw [hq] at i10
        have hq256 : (q : Int) < 256 := by have := byteP_lt b 10; omega
        have hwm : IntKind.i64.wrap ((m : Int) - 1) = (m : Int) - 1 := by rw [IntKind.wrap_i64]; omega
        have HNO : Hid (fitsP b x pl i m = false → takeP L p pl e = none) := Lib.hid (fun h => HT.out (fun hn => by
          have := hn.2.2.2.2.2.2 i hlt
          rw [hgu, h] at this
          cases this))
        have HFT := Lib.hid (show fitsP b x pl i m = (rightP b && decide (byteP b 10 ≤ 45 ∧ (i + 1 < m → 45 ≤ byteP b 10) ∧ (0 < i → byteP b 10 ≠ 0)) && decide (numP b 0 = x ∧ numP b 4 = pl + 1 ∧ byteP b 8 = i ∧ byteP b 9 = m)) from rfl)
        rw [hq] at HFT
        clear hb cw
        clear huL
        by_cases ha1 : 45 < q
        · have ha1I : (45 : Int) < (q : Int) := by omega
          have HNN := Lib.hid (HNO.out (by rw [HFT.out]; simp; omega))
          clear HNO HFT hgu hl hq
          go_wp2_with fail
          refine bodyPost_ret (v := .tuple #[.string ⟨#[]⟩, .int .i64 0, .int .u64 0]) (by simp [results, Try.results69, go_sem]) rfl ⟨by rw [HNN.out]; rfl, HMO.out⟩
        have ha1I : (q : Int) ≤ 45 := by omega
        by_cases ha2 : i + 1 < m ∧ q < 45
        · have ha2I : (i : Int) < (m : Int) - 1 := by omega
          have ha2J : (q : Int) < 45 := by omega
          have HNN := Lib.hid (HNO.out (by rw [HFT.out]; simp; omega))
          clear HNO HFT hgu hl hq ha2
          go_wp2_with fail
          refine bodyPost_ret (v := .tuple #[.string ⟨#[]⟩, .int .i64 0, .int .u64 0]) (by simp [results, Try.results69, go_sem]) rfl ⟨by rw [HNN.out]; rfl, HMO.out⟩
        by_cases ha3 : 0 < i ∧ q = 0
        · obtain ⟨ha4, rfl⟩ := ha3
          have ha3I : (m : Int) - 1 ≤ (i : Int) := by omega
          have ha3J : (0 : Int) < (i : Int) := by omega
          have HNN := Lib.hid (HNO.out (by rw [HFT.out]; simp; omega))
          clear HNO HFT hgu hl hq ha2
          go_wp2_with fail
          refine bodyPost_ret (v := .tuple #[.string ⟨#[]⟩, .int .i64 0, .int .u64 0]) (by simp [results, Try.results69, go_sem]) rfl ⟨by rw [HNN.out]; rfl, HMO.out⟩
        go_upto_region 15 with fail
        go_cut [101] (fun s101 wx => s101 = .bool false ∧ wx = wr)
        case first =>
          rcases Nat.lt_or_ge (i + 1) m with hb1 | hb1
          · have hq45 : q = 45 := by omega
            subst hq45
            have hb1I : (i : Int) < (m : Int) - 1 := by omega
            rcases Nat.eq_zero_or_pos i with hb2 | hb2
            · subst hb2
              go_wp2_with fail
              go_meet
              exact ⟨rfl, rfl⟩
            · have hb2I : (0 : Int) < (i : Int) := by omega
              go_wp2_with fail
              go_meet
              exact ⟨rfl, rfl⟩
          · have hb1I : (m : Int) - 1 ≤ (i : Int) := by omega
            rcases Nat.eq_zero_or_pos i with hb2 | hb2
            · subst hb2
              go_wp2_with fail
              go_meet
              exact ⟨by simp; omega, rfl⟩
            · have hb2I : (0 : Int) < (i : Int) := by omega
              have hq0 : (0 : Int) < (q : Int) := by omega
              have hq1 : ¬ (q : Int) = 0 := by omega
              go_wp2_with fail
              go_meet
              exact ⟨by simp; omega, rfl⟩
        case rest =>
        obtain ⟨rfl, rfl⟩ := hcut
        clear hwm hpm hfitI hm1I hm2I hxeI ha1I HT
        have hsz : (strOf b).size = 64 := by simp [hl]
        have hx11 : (strOf b).extract 11 (11 + q) = strOf (dataP b) := by rw [strOf_extract]; unfold dataP; rw [hq, Nat.add_sub_cancel_left]
        have hwq : IntKind.i64.wrap (11 + (q : Int)) = 11 + (q : Int) := by rw [IntKind.wrap_i64]; omega
        have h11t : (11 + (q : Int)).toNat = 11 + q := by omega
        have h11a : (11 : Int) ≤ 11 + (q : Int) := by omega
        have h11b : 11 + (q : Int) ≤ 64 := by omega
        have hx4 : (strOf b).extract 4 64 = strOf (b.drop 4) := by rw [strOf_extract, List.take_of_length_le (by simp [hl])]
        have HRB := Lib.hid (fun W => r7right_any W hl)
        obtain ⟨x0, hx0⟩ : ∃ x0, numP b 0 = x0 := ⟨_, rfl⟩
        obtain ⟨x4, hn4⟩ : ∃ x4, numP b 4 = x4 := ⟨_, rfl⟩
        obtain ⟨z8, hz8⟩ : ∃ z8, byteP b 8 = z8 := ⟨_, rfl⟩
        obtain ⟨z9, hz9⟩ : ∃ z9, byteP b 9 = z9 := ⟨_, rfl⟩
        have HN0 := Lib.hid (fun W => rnumber_q W hl (by omega))
        have HN4 := Lib.hid (fun W => rnumber_q W (xs := b.drop 4) (n := 60) (by simp [hl]) (by omega))
        have i8 := fun W => index_byteP b 8 (by omega) 8 rfl W
        have j9 := fun W => index_byteP b 9 (by omega) 9 rfl W
        rw [numP_drop, hn4] at HN4
        rw [hx0] at HN0
        rw [hz8] at i8
        rw [hz9] at j9
        rw [hx0, hn4, hz8, hz9] at HFT
        have hz8w : IntKind.i64.wrap (z8 : Int) = (z8 : Int) := by have := byteP_lt b 8; rw [IntKind.wrap_i64]; omega
        have hz9w : IntKind.i64.wrap (z9 : Int) = (z9 : Int) := by have := byteP_lt b 9; rw [IntKind.wrap_i64]; omega
        have hplw : IntKind.u64.wrap (pl : Int) = (pl : Int) := by rw [IntKind.wrap_u64]; omega
        have hplw1 : IntKind.u64.wrap ((pl : Int) + 1) = (pl : Int) + 1 := by rw [IntKind.wrap_u64]; omega
        clear hx0 hn4 hz8 hz9
        cases hrb : rightP b with
        | false =>
          have HNN := Lib.hid (HNO.out (by rw [HFT.out, hrb]; simp))
          rw [hrb] at HRB
          clear HNO HFT hgu hl hq ha2 ha3 hrb
          go_wp2_with (go_at_call 118; refine (HRB.out _).mono ?_; rintro r w5 ⟨rfl, m5⟩; have M5 := Lib.hid m5; clear m5)
          refine bodyPost_ret (v := .tuple #[.string ⟨#[]⟩, .int .i64 0, .int .u64 0]) (by simp [results, Try.results69, go_sem]) rfl ⟨by rw [HNN.out]; rfl, HMO.out.trans M5.out⟩
        | true =>
          rw [hrb] at HRB
          by_cases hq0 : x0 = x
          · subst hq0
            by_cases hq4 : x4 = pl + 1
            · have hq4I : (x4 : Int) = (pl : Int) + 1 := by omega
              rw [hq4I] at HN4
              by_cases hq8 : z8 = i
              · subst hq8
                by_cases hq9 : z9 = m
                · subst hq9
                  have hfit1 : fitsP b x0 pl z8 z9 = true := by
                    rw [HFT.out, hrb]
                    simp
                    refine ⟨⟨by omega, by omega, by omega⟩, hq4⟩
                  have hd45 := fits_data hfit1
                  have hj45 := joinP_length (l := L) (p := p) (i := z8) (fun k hk => fits_data (HF.out k hk))
                  have hadd := fun W => string_add Try.prog (joinP L p z8) (dataP b) (by omega) W
                  have HJ : Hid (joinP L p (z8 + 1) = joinP L p z8 ++ dataP b) := Lib.hid (by rw [joinP_succ, hgu])
                  have HFN : Hid (∀ j, j < z8 + 1 → fitsP (L.getD (p + j) []) x0 pl j z9 = true) := Lib.hid (fun j hj => by
                    by_cases e : j = z8
                    · subst e
                      rw [hgu]
                      exact hfit1
                    · exact HF.out j (by omega))
                  have hwi : IntKind.i64.wrap ((z8 : Int) + 1) = (z8 : Int) + 1 := by rw [IntKind.wrap_i64]; omega
                  clear HNO HFT hgu hl hq ha2 ha3 hrb hfit1 hd45 hj45 hq4
                  go_wp2_with (first
                    | (go_at_call 118; refine (HRB.out _).mono ?_; rintro r w5 ⟨rfl, m5⟩; have M5 := Lib.hid m5; clear m5)
                    | (go_at_call 68; with_reducible refine (HN4.out _).mono ?_; rintro r w7 ⟨rfl, k7, rfl⟩)
                    | (go_at_call 68; with_reducible refine (HN0.out _).mono ?_; rintro r w6 ⟨rfl, k6, rfl⟩))
                  exact ⟨⟨z8 + 1, hlt, by go_num, by rw [HJ.out], HFN.out, by first | exact HMO.out.trans ((M5.out.drewN _).drewN _) | exact HMO.out.trans (M5.out.drewN _)⟩, by simp [intOf]; omega⟩
                · have hq9B : ((z9 : Int) == (m : Int)) = false := by simp; omega
                  have HNN := Lib.hid (HNO.out (by rw [HFT.out]; simp; omega))
                  clear HNO HFT hgu hl hq ha2 ha3 hrb hq4
                  go_wp2_with (first
                    | (go_at_call 118; refine (HRB.out _).mono ?_; rintro r w5 ⟨rfl, m5⟩; have M5 := Lib.hid m5; clear m5)
                    | (go_at_call 68; with_reducible refine (HN4.out _).mono ?_; rintro r w7 ⟨rfl, k7, rfl⟩)
                    | (go_at_call 68; with_reducible refine (HN0.out _).mono ?_; rintro r w6 ⟨rfl, k6, rfl⟩))
                  refine bodyPost_ret (v := .tuple #[.string ⟨#[]⟩, .int .i64 0, .int .u64 0]) (by simp [results, Try.results69, go_sem]) rfl ⟨by rw [HNN.out]; rfl, ?_⟩
                  first | exact HMO.out.trans ((M5.out.drewN _).drewN _) | exact HMO.out.trans (M5.out.drewN _)
              · have hq8B : ((z8 : Int) == (i : Int)) = false := by simp; omega
                have HNN := Lib.hid (HNO.out (by rw [HFT.out]; simp; omega))
                clear HNO HFT hgu hl hq ha2 ha3 hrb hq4
                go_wp2_with (first
                  | (go_at_call 118; refine (HRB.out _).mono ?_; rintro r w5 ⟨rfl, m5⟩; have M5 := Lib.hid m5; clear m5)
                  | (go_at_call 68; with_reducible refine (HN4.out _).mono ?_; rintro r w7 ⟨rfl, k7, rfl⟩)
                  | (go_at_call 68; with_reducible refine (HN0.out _).mono ?_; rintro r w6 ⟨rfl, k6, rfl⟩))
                refine bodyPost_ret (v := .tuple #[.string ⟨#[]⟩, .int .i64 0, .int .u64 0]) (by simp [results, Try.results69, go_sem]) rfl ⟨by rw [HNN.out]; rfl, ?_⟩
                first | exact HMO.out.trans ((M5.out.drewN _).drewN _) | exact HMO.out.trans (M5.out.drewN _)
            · have hq4B : ((x4 : Int) == (pl : Int) + 1) = false := by simp; omega
              have HNN := Lib.hid (HNO.out (by rw [HFT.out]; simp; omega))
              clear HNO HFT hgu hl hq ha2 ha3 hrb
              go_wp2_with (first
                | (go_at_call 118; refine (HRB.out _).mono ?_; rintro r w5 ⟨rfl, m5⟩; have M5 := Lib.hid m5; clear m5)
                | (go_at_call 68; with_reducible refine (HN4.out _).mono ?_; rintro r w7 ⟨rfl, k7, rfl⟩)
                | (go_at_call 68; with_reducible refine (HN0.out _).mono ?_; rintro r w6 ⟨rfl, k6, rfl⟩))
              refine bodyPost_ret (v := .tuple #[.string ⟨#[]⟩, .int .i64 0, .int .u64 0]) (by simp [results, Try.results69, go_sem]) rfl ⟨by rw [HNN.out]; rfl, ?_⟩
              first | exact HMO.out.trans ((M5.out.drewN _).drewN _) | exact HMO.out.trans (M5.out.drewN _)
          · have hq0B : ((x0 : Int) == (x : Int)) = false := by simp; omega
            have HNN := Lib.hid (HNO.out (by rw [HFT.out]; simp; omega))
            clear HNO HFT hgu hl hq ha2 ha3 hrb
            go_wp2_with (first
              | (go_at_call 118; refine (HRB.out _).mono ?_; rintro r w5 ⟨rfl, m5⟩; have M5 := Lib.hid m5; clear m5)
              | (go_at_call 68; with_reducible refine (HN0.out _).mono ?_; rintro r w6 ⟨rfl, k6, rfl⟩))
            refine bodyPost_ret (v := .tuple #[.string ⟨#[]⟩, .int .i64 0, .int .u64 0]) (by simp [results, Try.results69, go_sem]) rfl ⟨by rw [HNN.out]; rfl, ?_⟩
            first | exact HMO.out.trans ((M5.out.drewN _).drewN _) | exact HMO.out.trans (M5.out.drewN _)
      · obtain rfl : i = m := by omega
        have HTS : Hid (takeP L p pl e = some (joinP L p i, i, x)) := Lib.hid (HYES.out (by omega) (by omega) (by omega) (by have := HN.out; omega) HF.out)
        go_wp2_with fail
        refine bodyPost_ret (v := .tuple #[.string (strOf (joinP L p i)), .int .i64 (i : Int), .int .u64 (x : Int)]) (by simp [results, Try.results69, go_sem]) rfl ⟨by rw [HTS.out]; rfl, HMO.out⟩
end Go.Proofs.Ytdllgmhipenidaa
