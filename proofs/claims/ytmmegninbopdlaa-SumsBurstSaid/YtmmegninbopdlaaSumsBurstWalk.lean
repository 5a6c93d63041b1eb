/- SumsBurst's walk. -/
import Derived.Test.YtmmegninbopdlaaSumsLongWalk
import Derived.Test.YtmmegninbopdlaaCrc2
import Derived.Test.YtmmegninbopdlaaOpen
import Derived.Laws.ShiftsVarLaws
namespace Go.Proofs.Ytmmegninbopdlaa
open Go.RowKit
set_option linter.unusedVariables false

theorem infoInt : (Try.prog.info? 3).map (fun i => (i.zero, i.size, i.bytes)) = some (some (.int .i64 0), 1, 8) := by kernel_rfl
theorem u32_of_wf {x : Int} (h : (Lit.int .u32 x).wf = true) : 0 ≤ x ∧ x < 4294967296 := by
  have h1 : IntKind.u32.min = 0 := rfl
  have h2 : IntKind.u32.max = 4294967295 := rfl
  simp only [Lit.wf, Bool.and_eq_true, decide_eq_true_eq] at h
  omega

theorem sealed_own {w : World} {A : Option Addr} {c n : Nat} {xs : List UInt8} (hn : xs.length = n) (hlim : n + 4 ≤ 140737488355328) (hs : Sl w A c (bts xs)) :
    Calls Try.prog 11 #[.slice A n c] w fun e w' => ∃ g cap, e = .returned (.slice (some ⟨g, 0, none⟩) (n + 4) cap) ∧ w'.ownsRow w.heap.size 5 1 (.slice (some ⟨g, 0, none⟩) (n + 4) cap) (n + 4) (bts (sealedOf xs)) ∧ n + 4 ≤ cap ∧ cap ≤ maxLen ∧ w.heap.size ≤ g ∧ g < w'.heap.size ∧ Mods Nil w w' := by
  refine (sealed_any hn hlim hs).mono ?_
  rintro e w' ⟨v, rfl, o, m⟩
  obtain ⟨g, cap, rfl, h1, h2, h3, h4, _⟩ := own_set o (k := 0) (by omega)
  exact ⟨g, cap, rfl, o, h1, h2, h3, h4, m⟩

/-- The row of bits, as far as it is made. -/
def bitRow (n m : Nat) : List Value := (List.range m).map fun q => Value.int .i64 ((pos n q : Nat) : Int)
theorem bitRow_length (n m : Nat) : (bitRow n m).length = m := by simp [bitRow]
theorem bitRow_succ (n m : Nat) : bitRow n (m + 1) = bitRow n m ++ [.int .i64 ((pos n m : Nat) : Int)] := by simp [bitRow, List.range_succ]

theorem own_set_at {w : World} {base n g cap : Nat} {e : TypeId} {xs : List Value} (h : w.ownsRow base e 1 (.slice (some ⟨g, 0, none⟩) n cap) n xs) {k : Nat} (hk : k < n) :
    w.frozen? ⟨g, k, none⟩ = false ∧ (∀ u, xs[k]? = some u → w.cell? ⟨g, k, none⟩ = some u) ∧ ∀ u, (w.setCell ⟨g, k, none⟩ u).ownsRow base e 1 (.slice (some ⟨g, 0, none⟩) n cap) n (xs.set k u) := by
  obtain ⟨g', cap', e', _, _, _, _, h1, h2, h3⟩ := own_set h hk
  injection e' with e5 e6 e7
  injection e5 with e5
  injection e5 with e5
  subst e5; subst e7
  exact ⟨h1, h2, h3⟩
theorem bitRow_get {n m q : Nat} (h : q < m) : (bitRow n m)[q]? = some (.int .i64 ((pos n q : Nat) : Int)) := by simp [bitRow, h]
theorem pos_first {n j q : Nat} (hj : j < n) (hq : q < 8) : ((pos n (8 * j + q) : Nat) : Int) = 8 * (j : Int) + (q : Int) := by
  unfold pos
  rw [if_pos (by omega)]
  omega
theorem pos_last {n r q : Nat} (hr : r < 4) (hq : q < 8) : ((pos n (8 * n + 8 * r + q) : Nat) : Int) = 8 * ((n : Int) + (3 - (r : Int))) + (q : Int) := by
  unfold pos
  rw [if_neg (by omega), show (8 * n + 8 * r + q - 8 * n) / 8 = r by omega, show (8 * n + 8 * r + q - 8 * n) % 8 = q by omega]
  omega
/-- One bit's place more. -/
theorem bits_step {w0 wq w2 : World} {n m : Nat} {v v' : Value} {z : Int} {o : Obj} (ho : wq.ownsRow w0.heap.size 3 1 v m (bitRow n m)) (hm : Mods Nil w0 wq) (hz : ((pos n m : Nat) : Int) = z)
    (hown : w2.ownsRow w0.heap.size 3 1 v' (m + 1) (bitRow n m ++ [.int .i64 z])) (hgrow : (wq.alloc o).grownBy w2 v.ownBlock) :
    w2.ownsRow w0.heap.size 3 1 v' (m + 1) (bitRow n (m + 1)) ∧ Mods Nil w0 w2 := by
  rw [bitRow_succ, hz]
  exact ⟨hown, (hm.alloc o).nil_trans (T := fun k => v.ownBlock = some k) ((Mods.refl _ _).grown hgrow (fun k hk _ => hk)) (fun i hi => (ho.lt i hi).1)⟩

set_option maxRecDepth 1000000 in
set_option maxHeartbeats 6400000 in
theorem sumsBurst_nat (w : World) {A : Option Addr} {c n : Nat} {xs : List UInt8} (hn : xs.length = n) (hs : Sl w A c (bts xs)) (at_ : Nat) (hat : at_ < 65536) (b : Nat) (hb32 : b < 4294967296) :
    Calls Try.prog 4 #[.slice A n c, .int .u16 at_, .int .u32 b] w fun e w' => e = .returned (.bool true) ∧ Mods Nil w w' := by
  have hmx := hs.max
  have hle := hs.le
  unfold maxLen at hmx
  simp at hle
  by_cases hbig : 300 < n
  · have hb : (300 : Int) < (n : Int) := by omega
    clear hs
    go_enter Try.func4, Try.ntmps4
    go_wp2_with (first | (go_at_call 8; refine (awake_any _).mono ?_; rintro e w1 ⟨rfl, m1⟩; have M1 := Lib.hid m1; clear m1))
    go_ret
    exact ⟨rfl, M1.out⟩
  · have hb : (n : Int) ≤ 300 := by omega
    have hb' : n ≤ 300 := by omega
    have HN := Lib.hid hn
    have HS := Lib.hid hs
    have HB := Lib.hid hb32
    have E1 := Lib.hid (show (sealedOf xs).length = n + 4 by rw [sealedOf_length, hn])
    clear hs hn hle hb32 hbig hmx
    by_cases h0 : b = 0
    · subst h0
      go_enter Try.func4, Try.ntmps4
      go_wp2_with (first
        | (go_at_call 8; refine (awake_any _).mono ?_; rintro e w1 ⟨rfl, m1⟩; have M1 := Lib.hid m1; clear m1)
        | (go_at_call 11; refine (sealed_own HN.out (by omega) (HS.out.mods M1.out (fun _ _ h => h))).mono ?_; rintro e w2 ⟨g, cap, rfl, o2, hcap, hcm, hg2, hgl, m2⟩; have O2 := Lib.hid o2; have M2 := Lib.hid (M1.out.trans m2); clear o2 m2 hcm)
        | (go_at_call 13; refine (right_any (xs := sealedOf xs) E1.out (by obtain ⟨A', c', e', _, s', _⟩ := own_slice O2.out; injection e' with e5 e6 e7; subst e5; subst e7; exact s')).mono ?_; rintro e w3 ⟨he, m3⟩; rw [rightOf_sealed] at he; subst he; have M3 := Lib.hid (M2.out.trans m3); clear m3))
      go_ret
      exact ⟨rfl, M3.out⟩
    · have hb0 : ((b : Int) == 0) = false := by rw [beq_eq_false_iff_ne]; omega
      obtain ⟨i0, hi, hz0, hz1, hz2⟩ := info_parts infoInt
      go_enter Try.func4, Try.ntmps4
      go_wp2_with (first
        | (go_at_call 8; refine (awake_any _).mono ?_; rintro e w1 ⟨rfl, m1⟩; have M1 := Lib.hid m1; clear m1)
        | (go_at_call 11; refine (sealed_own HN.out (by omega) (HS.out.mods M1.out (fun _ _ h => h))).mono ?_; rintro e w2 ⟨g, cap, rfl, o2, hcap, hcm, hg2, hgl, m2⟩; have O2 := Lib.hid o2; have M2 := Lib.hid (M1.out.trans m2); have HG2 := Lib.hid (Nat.le_trans M1.out.size hg2); clear o2 m2 hcm)
        | (go_at_call 13; refine (right_any (xs := sealedOf xs) E1.out (by obtain ⟨A', c', e', _, s', _⟩ := own_slice O2.out; injection e' with e5 e6 e7; subst e5; subst e7; exact s')).mono ?_; rintro e w3 ⟨he, m3⟩; rw [rightOf_sealed] at he; subst he; have M3 := Lib.hid (M2.out.trans m3); have O3 := Lib.hid (own_mods O2.out m3 (fun _ _ h => h)); have HG3 := Lib.hid (Nat.lt_of_lt_of_le hgl m3.size); clear m3))
      obtain ⟨k, hk⟩ : ∃ k, at_ % (8 * (n + 4) - 31) = k := ⟨_, rfl⟩
      have hkl : k < 8 * (n + 4) - 31 := by rw [← hk]; exact Nat.mod_lt _ (by omega)
      have hkI : (at_ : Int) % (8 * ((n : Int) + 4) - 31) = (k : Int) := by rw [← hk, Int.natCast_emod, show ((8 * (n + 4) - 31 : Nat) : Int) = 8 * ((n : Int) + 4) - 31 by omega]
      have HKL := Lib.hid hkl
      rw [hkI]
      clear hkI hkl hk
      go_loopw [11, 12] (fun v i wr => ∃ j : Nat, j ≤ n ∧ i = .int .i64 j ∧ wr.ownsRow w3.heap.size 3 1 v (8 * j) (bitRow n (8 * j)) ∧ Mods Nil w3 wr) (fun _ i _ => n - (intOf i).toNat)
      case atStart => exact ⟨0, by omega, rfl, World.ownsRow_nil _ _ _ _, Mods.refl _ _⟩
      case round =>
        obtain ⟨j, hj, rfl, ho, hm⟩ := hrel
        by_cases hlt : j < n
        · have hjI : (j : Int) < (n : Int) := by omega
          go_wp2_with fail
          go_loopw [11, 13] (fun v t wq => ∃ q : Nat, q ≤ 8 ∧ t = .int .i64 q ∧ wq.ownsRow w3.heap.size 3 1 v (8 * j + q) (bitRow n (8 * j + q)) ∧ Mods Nil w3 wq) (fun _ t _ => 8 - (intOf t).toNat)
          case atStart => exact ⟨0, by omega, rfl, ho, hm⟩
          case round =>
            clear ho hm
            obtain ⟨q, hq, rfl, ho, hm⟩ := hrel
            by_cases hl8 : q < 8
            · have hqI : (q : Int) < 8 := by omega
              have HZ := Lib.hid (pos_first (n := n) hlt hl8)
              have HO := Lib.hid ho
              have HM := Lib.hid hm
              clear ho hm
              go_wp2_with (first | (at_builtin; (refine wpList_append_sl _ rfl _ _ 34 rfl w3.heap.size 3 i0 (.int .i64 0) 8 Try.underlying34 hi hz0 hz1 hz2 rfl u11 (8 * j + q) (bitRow n (8 * j + q)) rfl (own_mods HO.out (S := Nil) ((Mods.refl _ _).alloc _) (fun _ _ h => h)) (some ⟨_, 0, none⟩) 1 1 [.int .i64 (8 * (j : Int) + (q : Int))] rfl rfl (one_sl _ _ _) (by intro u hu; simp at hu; subst hu; rfl) (by omega) (by unfold maxLen; omega) (by have := HM.out.size; simp; omega) ?_; intro v' w9 hown hgrow hblk; have HB9 := Lib.hid (bits_step HO.out HM.out HZ.out hown hgrow); clear hown hgrow hblk)))
              exact ⟨⟨q + 1, by omega, by go_num, HB9.out.1, HB9.out.2⟩, by simp [intOf]; omega⟩
            · obtain rfl : q = 8 := by omega
              have e8 : 8 * j + 8 = 8 * (j + 1) := by omega
              rw [e8] at ho
              have HO := Lib.hid ho
              have HM := Lib.hid hm
              clear ho hm e8
              go_wp2_with fail
              exact ⟨⟨j + 1, by omega, by go_num, HO.out, HM.out⟩, by simp [intOf]; omega⟩
        · obtain rfl : n = j := by omega
          have e0 : bitRow n (8 * n) = bitRow n (8 * n + 8 * 0) := rfl
          have HO := Lib.hid ho
          have HM := Lib.hid hm
          clear ho hm e0
          go_wp2_with fail
          go_loopw [11, 14] (fun v t wr => ∃ r : Nat, r ≤ 4 ∧ t = .int .i64 (3 - (r : Int)) ∧ wr.ownsRow w3.heap.size 3 1 v (8 * n + 8 * r) (bitRow n (8 * n + 8 * r)) ∧ Mods Nil w3 wr) (fun _ t _ => (intOf t + 1).toNat)
          case atStart => exact ⟨0, by omega, rfl, HO.out, HM.out⟩
          case round =>
            clear HO HM
            obtain ⟨r, hr, rfl, ho, hm⟩ := hrel
            by_cases hlt4 : r < 4
            · have hrI : (0 : Int) ≤ 3 - (r : Int) := by omega
              have hrJ : (r : Int) ≤ 3 := by omega
              go_wp2_with fail
              go_loopw [11, 15] (fun v t wq => ∃ q : Nat, q ≤ 8 ∧ t = .int .i64 q ∧ wq.ownsRow w3.heap.size 3 1 v (8 * n + 8 * r + q) (bitRow n (8 * n + 8 * r + q)) ∧ Mods Nil w3 wq) (fun _ t _ => 8 - (intOf t).toNat)
              case atStart => exact ⟨0, by omega, rfl, ho, hm⟩
              case round =>
                clear ho hm
                obtain ⟨q, hq, rfl, ho, hm⟩ := hrel
                by_cases hl8 : q < 8
                · have hqI : (q : Int) < 8 := by omega
                  have HZ := Lib.hid (pos_last (n := n) hlt4 hl8)
                  have HO := Lib.hid ho
                  have HM := Lib.hid hm
                  clear ho hm
                  go_wp2_with (first | (at_builtin; (refine wpList_append_sl _ rfl _ _ 34 rfl w3.heap.size 3 i0 (.int .i64 0) 8 Try.underlying34 hi hz0 hz1 hz2 rfl u11 (8 * n + 8 * r + q) (bitRow n (8 * n + 8 * r + q)) rfl (own_mods HO.out (S := Nil) ((Mods.refl _ _).alloc _) (fun _ _ h => h)) (some ⟨_, 0, none⟩) 1 1 [.int .i64 (8 * ((n : Int) + (3 - (r : Int))) + (q : Int))] rfl rfl (one_sl _ _ _) (by intro u hu; simp at hu; subst hu; rfl) (by omega) (by unfold maxLen; omega) (by have := HM.out.size; simp; omega) ?_; intro v' w9 hown hgrow hblk; have HB9 := Lib.hid (bits_step HO.out HM.out HZ.out hown hgrow); clear hown hgrow hblk)))
                  exact ⟨⟨q + 1, by omega, by go_num, HB9.out.1, HB9.out.2⟩, by simp [intOf]; omega⟩
                · obtain rfl : q = 8 := by omega
                  have e8 : 8 * n + 8 * r + 8 = 8 * n + 8 * (r + 1) := by omega
                  rw [e8] at ho
                  have HO := Lib.hid ho
                  have HM := Lib.hid hm
                  clear ho hm e8
                  go_wp2_with fail
                  exact ⟨⟨r + 1, by omega, by go_num, HO.out, HM.out⟩, by simp [intOf]; omega⟩
            · obtain rfl : r = 4 := by omega
              obtain ⟨L, e4⟩ : ∃ L, 8 * n + 8 * 4 = L := ⟨_, rfl⟩
              rw [e4] at ho
              obtain ⟨A5, c5, hv5, -, s5, b5⟩ := own_slice ho
              subst hv5
              have S5 := Lib.hid s5
              have B5 := Lib.hid (fun a ha => (b5 a ha).2)
              have HM := Lib.hid hm
              have HL := Lib.hid e4
              clear ho hm s5 b5 e4
              go_wp2_with fail
              go_loopw [16] (fun t wq => ∃ i : Nat, i ≤ 32 ∧ t = .int .i64 i ∧ wq.ownsRow w1.heap.size 5 1 (.slice (some ⟨g, 0, none⟩) (n + 4) cap) (n + 4) (bts (hit xs k b i)) ∧ Mods (· = g) wr wq) (fun t _ => 32 - (intOf t).toNat)
              case atStart => exact ⟨0, by omega, rfl, by rw [hit_zero]; exact own_mods O3.out HM.out (fun _ _ h => h), Mods.refl _ _⟩
              case round =>
                obtain ⟨i, hi32, rfl, ho, hm⟩ := hrel
                have HO := Lib.hid ho
                have HM7 := Lib.hid hm
                clear ho hm
                by_cases hi8 : i < 32
                · have hiI : (i : Int) < 32 := by omega
                  have hmin : min i 32 = i := by omega
                  have hshr : (b : Int) / 2 ^ i = ((b / 2 ^ i : Nat) : Int) := by rw [Int.natCast_ediv]; congr 1
                  have hand : bits .and .u32 ((b : Int) / 2 ^ i) 1 = ((b / 2 ^ i % 2 : Nat) : Int) := by
                    rw [hshr, show (1 : Int) = ((1 : Nat) : Int) from rfl, u32_and_nat _ _ (by have := HB.out; have := Nat.div_le_self b (2 ^ i); omega) (by omega), nat_mask1]
                  rcases Nat.mod_two_eq_zero_or_one (b / 2 ^ i) with h01 | h01
                  · rw [h01] at hand
                    have HE := Lib.hid (hit_not xs k b i h01)
                    have hand' : bits .and .u32 ((b : Int) / 2 ^ i) 1 = 0 := hand
                    clear hand hshr h01 hi8
                    go_wp2_with fail
                    exact ⟨⟨i + 1, by omega, by go_num, by rw [HE.out]; exact HO.out, HM7.out⟩, by simp [intOf]; omega⟩
                  · rw [h01] at hand
                    have hand' : bits .and .u32 ((b : Int) / 2 ^ i) 1 = 1 := hand
                    clear hand hshr hi8
                    have H01 := Lib.hid h01
                    clear h01
                    have hkl := HKL.out
                    have hki : k + i < 8 * (n + 4) := by omega
                    have hP := pos_lt hki
                    obtain ⟨blk5, off5, rfl, _, hcell5⟩ := (S5.out.mods HM7.out (fun a ha e => by have := B5.out a ha; have := HG3.out; omega)).at_ (by rw [bitRow_length]; have := HL.out; omega)
                    have h5 : wr.cell? ⟨blk5, off5 + (k + i), none⟩ = some (.int .i64 ((pos n (k + i) : Nat) : Int)) := hcell5 (k + i) _ (bitRow_get (by have := HL.out; omega))
                    obtain ⟨t, ht⟩ : ∃ t, k + i = t := ⟨_, rfl⟩
                    have hHB := fun d hd => hit_bit xs k b i (by rw [HN.out]; exact hki) H01.out d hd
                    rw [HN.out] at hHB
                    generalize pos n (k + i) = P at hP h5 hHB
                    rw [ht] at h5
                    obtain ⟨u, hu⟩ : ∃ u, P / 8 = u := ⟨_, rfl⟩
                    obtain ⟨v, hv⟩ : ∃ v, P % 8 = v := ⟨_, rfl⟩
                    rw [hu, hv] at hHB
                    have hun : u < n + 4 := by omega
                    have hv8 : v < 8 := by omega
                    have hPu : (P : Int) / 8 = (u : Int) := by omega
                    have hPv : (P : Int) % 8 = (v : Int) := by omega
                    have hlen : (hit xs k b i).length = n + 4 := by rw [hit_length, HN.out]
                    obtain ⟨D, hD⟩ : ∃ D, (hit xs k b i)[u]? = some D := ⟨(hit xs k b i)[u]'(by omega), List.getElem?_eq_getElem (by omega)⟩
                    have HH := Lib.hid (hHB D hD)
                    obtain ⟨hfz, hcl, hst⟩ := own_set_at HO.out hun
                    have hc := hcl (.int .u8 (D.toNat : Int)) (by simp [bts, hD])
                    have HST := Lib.hid hst
                    obtain ⟨z, hz⟩ : ∃ z, z = D ^^^ UInt8.ofNat (2 ^ v) := ⟨_, rfl⟩
                    have hs256 : 2 ^ v < 256 := by have := Nat.pow_lt_pow_right (a := 2) (by omega) hv8; simpa using this
                    have hxor : bits .xor .u8 (D.toNat : Int) ((2 ^ v : Nat) : Int) = (z.toNat : Int) := by
                      rw [u8_xor_nat _ _ D.toNat_lt hs256, hz, UInt8.toNat_xor]
                      simp [Nat.mod_eq_of_lt hs256]
                    have hsh : (2 : Int) ^ v % 256 = ((2 ^ v : Nat) : Int) := by
                      have : ((2 ^ v : Nat) : Int) = (2 : Int) ^ v := by simp
                      rw [← this]; exact Int.emod_eq_of_lt (Int.natCast_nonneg _) (Int.ofNat_lt.2 hs256)
                    rw [← hz] at HH
                    have HB2 := Lib.hid (show (bts (hit xs k b i)).set u (.int .u8 (z.toNat : Int)) = bts (hit xs k b (i + 1)) by rw [HH.out]; simp [bts, List.map_set])
                    obtain ⟨s, hs⟩ : ∃ s, 2 ^ v = s := ⟨_, rfl⟩
                    rw [hs] at hxor hsh
                    have hminv : min v 8 = v := by omega
                    have hv8I : (v : Int) < 8 := by omega
                    have hkiI : (t : Int) < (L : Int) := by have := HL.out; omega
                    have hkt : (k : Int) + (i : Int) = (t : Int) := by omega
                    have ht2500 : (t : Int) ≤ 2500 := by omega
                    have hP2500 : (P : Int) ≤ 2500 := by omega
                    have hunI : (u : Int) < (n : Int) + 4 := by omega
                    generalize D.toNat = d at hc hxor
                    generalize z.toNat = zz at hxor HB2
                    clear hcell5 hHB hP hu hv hlen hD hcl hst hz hs256 HH hs hkl hki ht
                    go_wp2_with fail
                    refine ⟨⟨i + 1, by omega, by go_num, ?_, HM7.out.setCell (fun _ => rfl) _⟩, by simp [intOf]; omega⟩
                    have := HST.out (.int .u8 (zz : Int))
                    rw [HB2.out] at this
                    exact this
                · obtain rfl : 32 = i := by omega
                  have hw := hit_wrong xs k b HB.out h0 (by have := HKL.out; have := HN.out; omega)
                  rw [HN.out] at hw
                  have hR : rightOf (hit xs k b 32) = false := by
                    rw [rightOf_long (k := n) (by rw [hit_length, HN.out])]
                    exact decide_eq_false hw
                  have HR := Lib.hid hR
                  have E7 := Lib.hid (show (hit xs k b 32).length = n + 4 by rw [hit_length, HN.out])
                  clear hw hR
                  go_wp2_with (first | (go_at_call 13; (refine (right_any (xs := hit xs k b 32) E7.out (by obtain ⟨A', c', e', _, s', _⟩ := own_slice HO.out; injection e' with e5 e6 e7; subst e5; subst e7; exact s')).mono ?_; rintro e w8 ⟨he, m8⟩; rw [HR.out] at he; subst he; have M8 := Lib.hid m8; clear m8)))
                  go_ret
                  refine ⟨rfl, ?_⟩
                  have k1 := M3.out.trans HM.out
                  exact (k1.nil_trans HM7.out (fun q hq => by subst hq; exact HG2.out)).trans M8.out
theorem sumsBurst_walk (w : World) {A : Option Addr} {c n : Nat} {xs : List UInt8} (hn : xs.length = n) (hs : Sl w A c (bts xs)) {a1 : Int} (w1 : (Lit.int .u16 a1).wf = true) {a2 : Int} (w2 : (Lit.int .u32 a2).wf = true) :
    Calls Try.prog 4 #[.slice A n c, .int .u16 a1, .int .u32 a2] w fun e w' => e = .returned (.bool true) ∧ Mods Nil w w' := by
  have h1 := u16_of_wf w1
  have h2 := u32_of_wf w2
  obtain ⟨n1, rfl⟩ := Int.eq_ofNat_of_zero_le h1.1
  obtain ⟨n2, rfl⟩ := Int.eq_ofNat_of_zero_le h2.1
  exact sumsBurst_nat w hn hs n1 (by omega) n2 (by omega)
end Go.Proofs.Ytmmegninbopdlaa
