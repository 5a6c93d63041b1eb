/- NetFull's walk. -/
import Derived.Test.YtglaenoaeiendaaHelp5
namespace Go.Proofs.Ytglaenoaeiendaa
set_option maxRecDepth 100000
open Go.RowKit
set_option linter.unusedVariables false

theorem nsend_full_int {w : World} {base nb nodes : Nat} {v : Value} {l : List Pk} (h : NetAt w base nb nodes v l) (hl : l.length = 4096) {f t : Int} (hf0 : 0 ≤ f) (hf : f < (nodes : Int)) (ht0 : 0 ≤ t) (ht : t < (nodes : Int)) (A2 : Option Addr) (m2 c2 : Nat) :
    Calls Try.prog 9 #[.pointer (some ⟨nb, 0, none⟩), .agg #[.int .i64 f, .int .i64 t, .slice A2 m2 c2]] w fun e w' => e = .returned (.int .i64 13) ∧ Mods Nil w w' := by
  obtain ⟨f, rfl⟩ := Int.eq_ofNat_of_zero_le hf0
  obtain ⟨t, rfl⟩ := Int.eq_ofNat_of_zero_le ht0
  exact nsend_full h hl (by omega) (by omega) A2 m2 c2
theorem ntwice_full_int {w : World} {base nb nodes : Nat} {v : Value} {l : List Pk} (h : NetAt w base nb nodes v l) (hl : l.length = 4096) {k : Int} (hk : k = 0) :
    Calls Try.prog 12 #[.pointer (some ⟨nb, 0, none⟩), .int .i64 k] w fun e w' => e = .returned (.int .i64 13) ∧ Mods Nil w w' := by
  subst hk
  exact ntwice_full (i := 0) h hl (by omega)
theorem nlen_nat {w : World} {nb n c : Nat} {A : Option Addr} {k : Int} (hc : w.cell? ⟨nb, 1, none⟩ = some (.slice A n c)) (hk : (n : Int) = k) :
    Calls Try.prog 11 #[.pointer (some ⟨nb, 0, none⟩)] w fun e w' => e = .returned (.int .i64 k) ∧ w = w' := by
  subst hk
  exact nlen_any hc
/-- All of them are from the one node to the other one, without bytes. -/
def Fu (t : Int) (L : List Pk) : Prop := ∀ p ∈ L, p.core = (1 - t, t, [])
theorem Fu.snoc {t : Int} {L : List Pk} {q : Pk} (h : Fu t L) (hq : q.core = (1 - t, t, [])) : Fu t (L ++ [q]) := fun p hp => by
  rcases List.mem_append.1 hp with hp | hp
  · exact h p hp
  · simp at hp; subst hp; exact hq
/-- Whoever is from one of two nodes, or to it, is lost with them. -/
theorem lost_all {t : Int} {L : List Pk} (h : ∀ p ∈ L, p.f = t ∨ p.f = 1 - t) : ((L.filter (keepB (1 - t))).filter (keepB t)) = [] := by
  rw [List.filter_eq_nil_iff]
  intro p hp hk
  obtain ⟨hp1, hp2⟩ := List.mem_filter.1 hp
  have h1 := keepB_yes.1 hp2
  have h2 := keepB_yes.1 hk
  rcases h p hp1 with e | e
  · exact h2.1 e
  · exact h1.1 e

/-- Clear, its count named. -/
def ClearedI (w : World) (base nb nodes : Nat) (v : Value) (l : List Pk) (k c : Int) (e : Ending) (w' : World) : Prop :=
  e = .returned (.int .i64 c) ∧ ∃ v', NetAt w' base nb nodes v' (l.filter (keepB k)) ∧ Mods (NS nb v) w w'
theorem nclear_int {w : World} {base nb nodes : Nat} {v : Value} {l : List Pk} (h : NetAt w base nb nodes v l) (hl : l.length ≤ 4096) (k : Int) {c : Int} (hc : (l.length : Int) - ((l.filter (keepB k)).length : Int) = c) :
    Calls Try.prog 13 #[.pointer (some ⟨nb, 0, none⟩), .int .i64 k] w (ClearedI w base nb nodes v l k c) := by
  subst hc
  exact (nclear_any h hl k).mono fun e w' ⟨h1, v', h2, h3, _⟩ => ⟨h1, v', h2, h3⟩

theorem u8_and7 (b : UInt8) : bits .and .u8 (b.toNat : Int) 7 = (b.toNat : Int) % 8 := by
  have := u8_and_nat b.toNat 7 b.toNat_lt (by omega)
  rw [nat_mask3] at this
  rw [show (7 : Int) = ((7 : Nat) : Int) from rfl, this]
  omega
theorem u8_and1 (b : UInt8) : bits .and .u8 (b.toNat : Int) 1 = (b.toNat : Int) % 2 := by
  have := u8_and_nat b.toNat 1 b.toNat_lt (by omega)
  rw [nat_mask1] at this
  rw [show (1 : Int) = ((1 : Nat) : Int) from rfl, this]
  omega

set_option maxRecDepth 1000000 in
set_option maxHeartbeats 6400000 in
theorem netFull_nat (w : World) (x y : UInt8) :
    Calls Try.prog 4 #[.int .u8 (x.toNat : Int), .int .u8 (y.toNat : Int)] w fun e w' => e = .returned (.bool true) ∧ Mods Nil w w' := by
  obtain ⟨r, hr⟩ : ∃ r : Nat, x.toNat % 8 = r := ⟨_, rfl⟩
  have hrI : (x.toNat : Int) % 8 = (r : Int) := by omega
  obtain ⟨t, ht⟩ : ∃ t : Nat, y.toNat % 2 = t := ⟨_, rfl⟩
  have htI : (y.toNat : Int) % 2 = (t : Int) := by omega
  have hand1 : bits .and .u8 (x.toNat : Int) 7 = (r : Int) := by rw [u8_and7, hrI]
  have hand2 : bits .and .u8 (y.toNat : Int) 1 = (t : Int) := by rw [u8_and1, htI]
  have hr7 : r ≤ 7 := by omega
  have hr7I : (r : Int) ≤ 7 := by omega
  have hr0 : (0 : Int) ≤ (r : Int) := by omega
  have ht1 : t ≤ 1 := by omega
  have ht1I : (t : Int) ≤ 1 := by omega
  have ht0 : (0 : Int) ≤ (t : Int) := by omega
  obtain ⟨N, hN⟩ : ∃ N : Nat, 4096 - r = N := ⟨_, rfl⟩
  have hNI : (4096 : Int) - (r : Int) = (N : Int) := by omega
  have hN2 : N ≤ 4096 := by omega
  have hN3 : N + r = 4096 := by omega
  have hx0 : (0 : Int) ≤ (x.toNat : Int) := by omega
  have hx1 : (x.toNat : Int) < 256 := by have := x.toNat_lt; omega
  have hy0 : (0 : Int) ≤ (y.toNat : Int) := by omega
  have hy1 : (y.toNat : Int) < 256 := by have := y.toNat_lt; omega
  generalize x.toNat = X at hand1 hx0 hx1 hr hrI
  generalize y.toNat = Y at hand2 hy0 hy1 ht htI
  have HNEW := Lib.hid (fun W : World => nnew_int W (k := 2) (by omega) (by omega))
  clear hr hrI ht htI hN
  go_enter Try.func4, Try.ntmps4
  go_wp2_with (first
    | (go_at_call 7; refine (awake5_any _).mono ?_; rintro e w1 ⟨rfl, m1⟩; have M1 := Lib.hid m1; clear m1)
    | (go_at_call 8; refine (HNEW.out _).mono ?_; rintro e w2 ⟨rfl, rfl⟩; have N0 := Lib.hid ((net_new w1 (k := 2) (n := 2) rfl).sub M1.out.size); have M0 := Lib.hid (M1.out.alloc (.cells #[.int .i64 2, .slice none 0 0] 46))))
  obtain ⟨nb, hnb⟩ : ∃ nb, w1.heap.size = nb := ⟨_, rfl⟩
  rw [hnb] at N0 ⊢
  clear hnb HNEW
  go_loopw [9] (fun i wr => ∃ (j : Nat) (v : Value) (L : List Pk), j ≤ N ∧ i = .int .i64 j ∧ NetAt wr w.heap.size nb 2 v L ∧ L.length = j ∧ Fu t L ∧ Mods Nil w wr) (fun i _ => N - (intOf i).toNat)
  case atStart => exact ⟨0, _, [], by omega, rfl, N0.out, rfl, (fun p h => by cases h), M0.out⟩
  case round =>
    obtain ⟨j, v, L, hj, rfl, hnet, hlen, hfu, hmo⟩ := hrel
    clear N0 M0 M1
    by_cases hlt : j < N
    · have hjI : (j : Int) < (N : Int) := by omega
      have HSEND := Lib.hid (nsend_int (f := 1 - (t : Int)) (t := (t : Int)) hnet (by omega) (by omega) (by omega) (by omega) (by omega) (xs := []) (m := 0) rfl (by omega) (Sl.none_ _))
      have HNET := Lib.hid hnet
      have HLEN := Lib.hid hlen
      have HFU := Lib.hid hfu
      have HMO := Lib.hid hmo
      clear hnet hlen hfu hmo
      go_wp2_with (go_at_call 9; refine (HSEND.out).mono ?_; rintro e w3 ⟨rfl, v3, q, k1, k2, k3, k4, k5⟩; have N3 := Lib.hid k1; have F3 := Lib.hid (HFU.out.snoc k2); have M3 := Lib.hid (HNET.out.trans_nil (Nat.le_refl _) HMO.out k4); clear k1 k2 k3 k4 k5)
      exact ⟨⟨j + 1, v3, _, by omega, by go_num, N3.out, by simp [HLEN.out], F3.out, M3.out⟩, by simp [intOf]; omega⟩
    · obtain rfl : N = j := by omega
      have HNET := Lib.hid hnet
      have HLEN := Lib.hid hlen
      have HFU := Lib.hid hfu
      have HMO := Lib.hid hmo
      clear hnet hlen hfu hmo
      go_wp2_with fail
      go_loopw [10] (fun i wr => ∃ (j : Nat) (v : Value) (L : List Pk), j ≤ r ∧ i = .int .i64 j ∧ NetAt wr w.heap.size nb 2 v L ∧ L.length = N + j ∧ Fu t L ∧ Mods Nil w wr) (fun i _ => r - (intOf i).toNat)
      case atStart => exact ⟨0, v, L, by omega, rfl, HNET.out, by have := HLEN.out; omega, HFU.out, HMO.out⟩
      case round =>
        obtain ⟨j, v, L, hj, rfl, hnet, hlen, hfu, hmo⟩ := hrel
        clear HNET HLEN HFU HMO
        by_cases hlt : j < r
        · have hjI : (j : Int) < (r : Int) := by omega
          have hjl : j < L.length := by omega
          have hc := hfu _ (List.getElem_mem hjl)
          have HTW := Lib.hid (ntwice_any hnet (by omega) hjl (by rw [(core_of hc).2.2]; simp))
          have HC := Lib.hid hc
          have HNET := Lib.hid hnet
          have HLEN := Lib.hid hlen
          have HFU := Lib.hid hfu
          have HMO := Lib.hid hmo
          clear hnet hlen hfu hmo hc
          go_wp2_with (go_at_call 12; refine (HTW.out).mono ?_; rintro e w3 ⟨rfl, v3, q, k1, k2, k3, k4, k5⟩; have N3 := Lib.hid k1; have F3 := Lib.hid (HFU.out.snoc (k2.trans HC.out)); have M3 := Lib.hid (HNET.out.trans_nil (Nat.le_refl _) HMO.out k4); clear k1 k2 k3 k4 k5)
          exact ⟨⟨j + 1, v3, _, by omega, by go_num, N3.out, by simp [HLEN.out]; omega, F3.out, M3.out⟩, by simp [intOf]; omega⟩
        · obtain rfl : r = j := by omega
          have hl4 : L.length = 4096 := by omega
          have h45 : 4095 < L.length := by omega
          have HS1 := Lib.hid (fun W (h : NetAt W w.heap.size nb 2 v L) => nsend_full_int h hl4 (f := 0) (t := 0) (by omega) (by omega) (by omega) (by omega) none 0 0)
          have HT1 := Lib.hid (fun W (h : NetAt W w.heap.size nb 2 v L) => ntwice_full_int h hl4 (k := 0) rfl)
          have HTA := Lib.hid (fun W (h : NetAt W w.heap.size nb 2 v L) => ntake_core h (by omega) (List.getElem?_eq_getElem h45) (k := 4095) rfl (hfu _ (List.getElem_mem h45)) (m := 0) rfl)
          have hl5 : (L.eraseIdx 4095).length = 4095 := by rw [List.length_eraseIdx]; simp [h45]; omega
          obtain ⟨L5, hL5⟩ : ∃ L5, L.eraseIdx 4095 = L5 := ⟨_, rfl⟩
          have hf5 : ∀ p ∈ L5, p.f = 1 - (t : Int) := fun p hp => by rw [← hL5] at hp; exact (core_of (hfu p (List.mem_of_mem_eraseIdx hp))).1
          rw [hL5] at hl5
          have HS2 := Lib.hid (fun W v5 (h : NetAt W w.heap.size nb 2 v5 L5) => nsend_int (f := 0) (t := 0) h (by omega) (by omega) (by omega) (by omega) (by omega) (xs := []) (m := 0) rfl (by omega) (Sl.none_ _))
          have HCL : Hid (∀ q : Pk, q.core = (0, 0, []) → (L5 ++ [q]).length = 4096 ∧ ∃ a : Nat, a ≤ 4096 ∧ ((L5 ++ [q]).filter (keepB (1 - (t : Int)))).length = a ∧ ((L5 ++ [q]).filter (keepB (1 - (t : Int)))).filter (keepB (t : Int)) = []) := fun q hq => by
            have hll : (L5 ++ [q]).length = 4096 := by simp; omega
            refine ⟨hll, _, by rw [← hll]; exact List.length_filter_le _ _, rfl, lost_all (fun p hp => ?_)⟩
            rcases List.mem_append.1 hp with hp | hp
            · exact .inr (hf5 p hp)
            · simp at hp; subst hp; have := (core_of hq).1; omega
          have HL5 := Lib.hid hL5
          have HNET := Lib.hid hnet
          have HMO := Lib.hid hmo
          clear hnet hlen hfu hmo hl4 h45 hl5 hf5 hL5
          go_wp2_with (first
            | (go_at_call 9; refine (HS2.out _ _ N4.out).mono ?_; rintro e w6 ⟨rfl, v6, q, k1, k2, k3, k4, k5⟩; obtain ⟨t1, a, t2, t3, t4⟩ := HCL.out q k2; obtain ⟨A6, c6, rfl, -, -, -⟩ := k1.place; have g6 := k1.cells.2.1; rw [t1] at g6; have N6 := Lib.hid k1; have T1 := Lib.hid t1; have T3 := Lib.hid t3; have T4 := Lib.hid t4; have X6 := Lib.hid (N4.out.trans_nil (Nat.le_refl _) X4.out k4); clear k1 k2 k3 k4 k5 t1 t3 t4)
            | (go_at_call 9; refine (HS1.out _ HNET.out).mono ?_; rintro e w3 ⟨rfl, m3⟩; have N2 := Lib.hid (HNET.out.nil m3); have X2 := Lib.hid (HMO.out.trans m3); clear m3)
            | (go_at_call 12; refine (HT1.out _ N2.out).mono ?_; rintro e w3 ⟨rfl, m3⟩; have N3 := Lib.hid (N2.out.nil m3); have X3 := Lib.hid (X2.out.trans m3); clear m3)
            | (go_at_call 10; refine (HTA.out _ N3.out).mono ?_; rintro e w5 ⟨A5, c5, rfl, s5, v5, n5, m5⟩; have mA : Mods Nil w5 (w5.alloc (.cells #[.int .i64 (1 - (t : Int)), .int .i64 (t : Int), .slice A5 0 c5] 32)) := (Mods.refl _ _).alloc _; rw [HL5.out] at n5; have N4 := Lib.hid (n5.nil mA); have X4 := Lib.hid ((N3.out.trans_nil (Nat.le_refl _) X3.out m5).trans mA); clear s5 n5 m5 mA)
            | (go_at_call 11; refine (nlen_nat g6 (k := 4096) rfl).mono ?_; rintro e w7 ⟨rfl, rfl⟩)
            | (go_at_call 13; refine (nclear_int N7.out (by rw [T3.out]; exact t2) (t : Int) (c := (a : Int)) (by rw [T3.out, T4.out]; simp)).mono ?_; rintro e w8 ⟨rfl, v8, n8, m8⟩; have X8 := Lib.hid (N7.out.trans_nil (Nat.le_refl _) X7.out m8); clear n8 m8)
            | (go_at_call 13; refine (nclear_int N6.out (by rw [T1.out]; omega) (1 - (t : Int)) (c := 4096 - (a : Int)) (by rw [T1.out, T3.out]; simp)).mono ?_; rintro e w7 ⟨rfl, v7, n7, m7⟩; have N7 := Lib.hid n7; have X7 := Lib.hid (N6.out.trans_nil (Nat.le_refl _) X6.out m7); have ha0 : (0 : Int) ≤ (a : Int) := (by omega); have ha1 : (a : Int) ≤ 4096 := (by omega); clear n7 m7))
          go_ret
          exact ⟨rfl, X8.out⟩
theorem netFull_walk (w : World) {a0 : Int} (w0 : (Lit.int .u8 a0).wf = true) {a1 : Int} (w1 : (Lit.int .u8 a1).wf = true) :
    Calls Try.prog 4 #[.int .u8 a0, .int .u8 a1] w fun e w' => e = .returned (.bool true) ∧ Mods Nil w w' := by
  have h0 := u8_of_wf w0
  have h1 := u8_of_wf w1
  have e0 : a0 = ((UInt8.ofNat a0.toNat).toNat : Int) := by simp; omega
  have e1 : a1 = ((UInt8.ofNat a1.toNat).toNat : Int) := by simp; omega
  rw [e0, e1]
  exact netFull_nat w _ _
end Go.Proofs.Ytglaenoaeiendaa
