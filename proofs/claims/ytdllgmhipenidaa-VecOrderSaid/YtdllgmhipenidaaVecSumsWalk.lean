/- VecSums' walk. -/
import Derived.Test.YtdllgmhipenidaaIn9
import Derived.Test.YtdllgmhipenidaaAwake09
namespace Go.Proofs.Ytdllgmhipenidaa
set_option maxRecDepth 1000000
open Go.RowKit
set_option linter.unusedVariables false
set_option linter.unusedSimpArgs false

/-- Turned, with noughts between. -/
def turned9 (xs : List Nat) (t j : Nat) : List Nat := (List.range j).flatMap fun i => [0, vat xs ((i + t) % xs.length)]
theorem turned9_succ (xs : List Nat) (t j : Nat) : turned9 xs t (j + 1) = turned9 xs t j ++ [0, vat xs ((j + t) % xs.length)] := by
  unfold turned9
  rw [List.range_succ, List.flatMap_append]
  simp
theorem turned9_length (xs : List Nat) (t : Nat) : ∀ j, (turned9 xs t j).length = 2 * j
  | 0 => rfl
  | j + 1 => by rw [turned9_succ, List.length_append, turned9_length xs t j]; simp; omega
def turnedM (xs : List Nat) (t j : Nat) : List Nat := (List.range j).map fun i => vat xs ((i + t) % xs.length)
theorem turned9_total (xs : List Nat) (t : Nat) : ∀ j, total (turned9 xs t j) = total (turnedM xs t j)
  | 0 => rfl
  | j + 1 => by
    rw [turned9_succ, total_append, turned9_total xs t j]
    unfold turnedM
    rw [List.range_succ, List.map_append, total_append]
    simp [total_cons, total_nil]
theorem turnedM_full (xs : List Nat) (t : Nat) : turnedM xs t xs.length = xs.drop (t % xs.length) ++ xs.take (t % xs.length) := by
  rcases Nat.eq_zero_or_pos xs.length with h0 | h0
  · have : xs = [] := List.length_eq_zero_iff.1 h0
    subst this
    simp [turnedM]
  have hk := Nat.mod_lt t h0
  refine vat_ext (by simp [turnedM]; omega) (fun i => ?_)
  unfold turnedM
  rw [vat_range, vat_append, List.length_drop]
  have hm : (i + t) % xs.length = (i + t % xs.length) % xs.length := by rw [Nat.add_mod_mod]
  rw [hm]
  obtain ⟨k, hkk⟩ : ∃ k, t % xs.length = k := ⟨_, rfl⟩
  rw [hkk] at hk ⊢
  by_cases h1 : i < xs.length - k
  · rw [if_pos (by omega), if_pos h1, vat_drop, Nat.mod_eq_of_lt (by omega), Nat.add_comm]
  · rw [if_neg h1]
    by_cases h2 : i < xs.length
    · rw [if_pos h2, vat_take (by omega), Nat.mod_eq_sub_mod (by omega), Nat.mod_eq_of_lt (by omega)]
      congr 1
      omega
    · rw [if_neg h2, vat_take_ge (by omega)]
theorem turned9_sum (xs : List Nat) (t : Nat) : total (turned9 xs t xs.length) = total xs := by
  rw [turned9_total, turnedM_full, total_append, Nat.add_comm, ← total_append, List.take_append_drop]
theorem total_le {k : Nat} : ∀ {xs : List Nat}, (∀ x ∈ xs, x ≤ k) → total xs ≤ xs.length * k
  | [], _ => by simp [total_nil]
  | x :: r, h => by
    have h1 := total_le (k := k) (xs := r) (fun y hy => h y (List.mem_cons_of_mem _ hy))
    have h2 := h x (by simp)
    rw [total_cons, List.length_cons, Nat.add_mul]
    omega
theorem vat_le {k : Nat} {xs : List Nat} (h : ∀ x ∈ xs, x ≤ k) (i : Nat) : vat xs i ≤ k := by
  by_cases hi : i < xs.length
  · rw [vat_lt hi]; exact h _ (List.getElem_mem hi)
  · rw [vat_ge (by omega)]; omega
theorem turned9_le {k : Nat} {xs : List Nat} (h : ∀ x ∈ xs, x ≤ k) (t j : Nat) : ∀ x ∈ turned9 xs t j, x ≤ k := by
  intro x hx
  unfold turned9 at hx
  rw [List.mem_flatMap] at hx
  obtain ⟨i, _, hi⟩ := hx
  simp at hi
  rcases hi with rfl | rfl
  · omega
  · exact vat_le h _
theorem own_same_ne {w w' : World} {b1 b2 n1 n2 : Nat} {e1 e2 : TypeId} {v1 v2 v' : Value} {x1 x2 : List Value} (h : ∀ k, v1.ownBlock = some k → v2.ownBlock ≠ some k) (ho : w.ownsRow b2 e2 1 v2 n2 x2) (hm : ∀ k, v'.ownBlock = some k → v1.ownBlock = some k ∨ w.heap.size ≤ k) : ∀ k, v'.ownBlock = some k → v2.ownBlock ≠ some k := fun k hk h2 => by
  rcases hm k hk with h3 | h3
  · exact h k h3 h2
  · have := (ho.lt k h2).2; omega
theorem conv32 (x : Int) (h0 : 0 ≤ x) (h : x < 4294967296) : IntKind.u64.wrap x = x := by rw [IntKind.wrap_u64]; omega
theorem sumV_of {xs : List Nat} {s : Nat} (h : total xs = s) (hs : s < 18446744073709551616) : sumV xs = s ∧ sumE xs = 0 := by
  unfold sumV sumE
  rw [if_pos (by omega), if_pos (by omega), h]
  exact ⟨rfl, rfl⟩
theorem sumE_big {xs : List Nat} (h : 18446744073709551616 ≤ total xs) : sumV xs = 0 ∧ sumE xs = 37 := by
  unfold sumV sumE
  rw [if_neg (by omega), if_neg (by omega)]
  exact ⟨rfl, rfl⟩
set_option maxHeartbeats 6400000 in
theorem vecSums_walk (w : World) {A : Option Addr} {c n : Nat} {xs : List Nat} (hn : xs.length = n) (hs : Sl w A c (nums32 xs)) (hx : ∀ n ∈ xs, n < 4294967296) {b : Int} (wf : (Lit.int .u8 b).wf = true) :
    Calls Try.prog 9 #[.slice A n c, .int .u8 b] w fun e w' => e = .returned (.bool true) ∧ Mods Nil w w' := by
  obtain ⟨i0, hi, hz0, hz1, hz2⟩ := info_parts infoV64
  have HS := Lib.hid hs
  have HN := Lib.hid hn
  have HX := Lib.hid (fun x (h : x ∈ xs) => (by have := hx x h; omega : x ≤ 4294967295))
  obtain ⟨t, rfl⟩ : ∃ y : Nat, b = (y : Int) := ⟨b.toNat, by have := u8_of_wf wf; omega⟩
  have ht : t < 256 := by have := u8_of_wf wf; omega
  clear hn hs hx wf
  by_cases h40 : 40 < n
  · have h40I : decide ((40 : Int) < (n : Int)) = true := by simp; omega
    go_enter Try.func9, Try.ntmps9
    go_wp2_with (go_at_call 42; refine (awake9_any _).mono ?_; rintro e w1 ⟨rfl, m1⟩; have M1 := Lib.hid m1; clear m1)
    go_ret
    exact ⟨rfl, M1.out⟩
  have h40I : decide ((40 : Int) < (n : Int)) = false := by simp; omega
  go_enter Try.func9, Try.ntmps9
  go_wp2_with (go_at_call 42; refine (awake9_any _).mono ?_; rintro e w1 ⟨rfl, m1⟩; have M1 := Lib.hid m1; clear m1)
  go_loopw [6, 7, 8, 9] (fun va vb s x wr => ∃ (j k c3 c4 : Nat) (A3 A4 : Option Addr) (u : Nat), j ≤ n ∧ x = .int .i64 (j : Int) ∧ k = 2 * j ∧ va = .slice A3 j c3 ∧ vb = .slice A4 k c4 ∧ s = .int .u64 (u : Int) ∧ total (xs.take j) = u ∧ wr.ownsRow w.heap.size 37 1 (.slice A3 j c3) j (nums (xs.take j)) ∧ wr.ownsRow w.heap.size 37 1 (.slice A4 k c4) k (nums (turned9 xs t j)) ∧ (∀ q, (Value.slice A3 j c3).ownBlock = some q → (Value.slice A4 k c4).ownBlock ≠ some q) ∧ Mods Nil w wr) (fun _ _ _ x _ => n - (intOf x).toNat)
  case atStart => exact ⟨0, 0, 0, 0, none, none, 0, Nat.zero_le _, rfl, rfl, rfl, rfl, rfl, rfl, World.ownsRow_nil _ _ _ _, World.ownsRow_nil _ _ _ _, fun q h => by simp [Value.ownBlock] at h, M1.out⟩
  case round =>
    clear M1
    obtain ⟨j, k, c3, c4, A3, A4, u, hj, rfl, hk, rfl, rfl, rfl, hu, ho, ho2, hap, hmo⟩ := hrel
    have HO := Lib.hid ho
    have HO2 := Lib.hid ho2
    have HAP := Lib.hid hap
    have HMO := Lib.hid hmo
    have HK := Lib.hid hk
    have HU := Lib.hid hu
    have hk80 : k ≤ 80 := by omega
    have hub : u ≤ 171798691800 := by
      have h1 := total_le (xs := xs.take j) (k := 4294967295) (fun x h => HX.out x (List.mem_of_mem_take h))
      have h2 : (xs.take j).length ≤ 40 := by rw [List.length_take]; omega
      have h3 := Nat.mul_le_mul_right 4294967295 h2
      omega
    clear ho ho2 hap hmo hk hu
    by_cases hlt : j < n
    · have hjI : (j : Int) < (n : Int) := by omega
      have hjl : j < xs.length := by rw [HN.out]; exact hlt
      obtain ⟨r, hr⟩ : ∃ r, (j + t) % n = r := ⟨_, rfl⟩
      have hrn : r < n := by rw [← hr]; exact Nat.mod_lt _ (by omega)
      have htm : ((j : Int) + (t : Int)).tmod (n : Int) = (r : Int) := by
        rw [Int.tmod_eq_emod_of_nonneg (by omega), ← hr, Int.natCast_emod, Int.natCast_add]
      have hn0 : ((n : Int) == 0) = false := by rw [beq_eq_false_iff_ne]; omega
      obtain ⟨b, off, hA, hb, hc⟩ := num32_at (HS.out.mods HMO.out (fun _ _ h => h)) (j := j) hjl
      obtain ⟨b', off', hA', hb', hc'⟩ := num32_at (HS.out.mods HMO.out (fun _ _ h => h)) (j := r) (by rw [HN.out]; exact hrn)
      obtain ⟨x, hx⟩ : ∃ x, vat xs j = x := ⟨_, rfl⟩
      obtain ⟨y, hy⟩ : ∃ x, vat xs r = x := ⟨_, rfl⟩
      have hxb : x ≤ 4294967295 := by rw [← hx]; exact vat_le HX.out j
      have hyb : y ≤ 4294967295 := by rw [← hy]; exact vat_le HX.out r
      rw [hx] at hc
      rw [hy] at hc'
      rw [hA] at hA'
      injection hA' with hA'
      injection hA' with hA1 hA2
      subst hA1; subst hA2
      subst hA
      have hcx := conv32 (x : Int) (by omega) (by omega)
      have hcy := conv32 (y : Int) (by omega) (by omega)
      have hus : IntKind.u64.wrap ((u : Int) + (x : Int)) = ((u + x : Nat) : Int) := by rw [IntKind.wrap_u64]; omega
      have HX1 := Lib.hid (show total (xs.take (j + 1)) = u + x by rw [total_take_succ xs j hjl, HU.out, hx])
      have HX2 := Lib.hid (show xs.take (j + 1) = xs.take j ++ [x] by rw [take_snoc_vat hjl, hx])
      have HX3 := Lib.hid (show turned9 xs t (j + 1) = turned9 xs t j ++ [0, y] by rw [turned9_succ, HN.out, hr, hy])
      have hcc : ∀ V, Mods Nil w V → V.cell? ⟨b, off + j, none⟩ = some (.int .u32 (x : Int)) := fun V hV => by
        obtain ⟨b2, off2, hA2, hb2, hc2⟩ := num32_at (HS.out.mods hV (fun _ _ h => h)) (j := j) hjl
        injection hA2 with hA2
        injection hA2 with hA3 hA4
        subst hA3; subst hA4
        rw [hx] at hc2
        exact hc2
      have hcd : ∀ V, Mods Nil w V → V.cell? ⟨b, off + r, none⟩ = some (.int .u32 (y : Int)) := fun V hV => by
        obtain ⟨b2, off2, hA2, hb2, hc2⟩ := num32_at (HS.out.mods hV (fun _ _ h => h)) (j := r) (by rw [HN.out]; exact hrn)
        injection hA2 with hA2
        injection hA2 with hA3 hA4
        subst hA3; subst hA4
        rw [hy] at hc2
        exact hc2
      have HCC := Lib.hid hcc
      have HCD := Lib.hid hcd
      clear hjl hr hx hy hb hb' hcc hcd hxb hyb
      go_wp2_with (first
        | (at_builtin; have hx5 := M3.out; clear hx5; refine wpList_append_sl _ rfl _ _ 83 rfl w.heap.size 37 i0 (.int .u64 0) 8 Try.underlying83 hi hz0 hz1 hz2 rfl _ k _ rfl (HOB.out.alloc _) (some ⟨w3.heap.size, 0, none⟩) 2 2 [.int .u64 0, .int .u64 (y : Int)] rfl rfl (build_at (n := 2) (by simp) rfl rfl (by decide)) (by simp [Value.oneCell']) (by omega) (by unfold maxLen; omega) (M3.out.alloc _).size ?_; intro v' w4 hown hgrow hmv; obtain ⟨A6, c6, rfl, e6, s6, b6⟩ := own_slice hown; have O4 := Lib.hid hown; have hgr := (Mods.refl (fun q => (Value.slice A4 k c4).ownBlock = some q) (w3.alloc (.cells #[.int .u64 0, .int .u64 (y : Int)] 37))).grown hgrow (fun q hq _ => hq); have O3' := Lib.hid (own_mods (O3.out.alloc (.cells #[.int .u64 0, .int .u64 (y : Int)] 37)) hgr (fun q hq h => AP3.out q hq h)); have AP4 := Lib.hid (fun q (hq : (Value.slice A5 (j + 1) c5).ownBlock = some q) (h9 : (Value.slice A6 (k + 2) c6).ownBlock = some q) => (by rcases hmv q h9 with h8 | h8; exact AP3.out q hq h8; have h7 := (O3.out.alloc (.cells #[.int .u64 0, .int .u64 (y : Int)] 37)).lt q hq; omega : False)); have M4 := Lib.hid (show Mods Nil w w4 from (M3.out.alloc _).nil_trans hgr (fun i h => (HO2.out.lt i h).1)); have g3 := HCC.out _ M4.out; clear hown hgrow hmv hgr e6 s6 b6)
        | (at_builtin; refine wpList_append_sl _ rfl _ _ 83 rfl w.heap.size 37 i0 (.int .u64 0) 8 Try.underlying83 hi hz0 hz1 hz2 rfl _ j _ rfl (HO.out.alloc _) (some ⟨wr.heap.size, 0, none⟩) 1 1 [.int .u64 (x : Int)] rfl rfl (build_at (n := 1) (by simp) rfl rfl (by decide)) (by simp [Value.oneCell']) (by omega) (by unfold maxLen; omega) (HMO.out.alloc _).size ?_; intro v' w3 hown hgrow hmv; obtain ⟨A5, c5, rfl, e5, s5, b5⟩ := own_slice hown; have O3 := Lib.hid hown; have hgr := (Mods.refl (fun q => (Value.slice A3 j c3).ownBlock = some q) (wr.alloc (.cells #[.int .u64 (x : Int)] 37))).grown hgrow (fun q hq _ => hq); have HOB := Lib.hid (own_mods (HO2.out.alloc (.cells #[.int .u64 (x : Int)] 37)) hgr (fun q hq h => HAP.out q h hq)); have AP3 := Lib.hid (fun q (hq : (Value.slice A5 (j + 1) c5).ownBlock = some q) (h9 : (Value.slice A4 k c4).ownBlock = some q) => (by rcases hmv q hq with h8 | h8; exact HAP.out q h8 h9; have h7 := (HO2.out.alloc (.cells #[.int .u64 (x : Int)] 37)).lt q h9; omega : False)); have M3 := Lib.hid (show Mods Nil w w3 from (HMO.out.alloc _).nil_trans hgr (fun i h => (HO.out.lt i h).1)); have g4 := HCD.out _ M3.out; clear hown hgrow hmv hgr e5 s5 b5))
      exact ⟨⟨j + 1, k + 2, c5, c6, A5, A6, u + x, by omega, by go_num, by have := HK.out; omega, rfl, rfl, rfl, HX1.out, by rw [HX2.out, nums_append]; exact O3'.out, by rw [HX3.out, nums_append]; exact O4.out, fun q h1 h2 => AP4.out q h1 h2, M4.out⟩, by simp [intOf]; omega⟩
    · obtain rfl : j = n := by omega
      have hfull : xs.take j = xs := List.take_of_length_le (by rw [HN.out]; exact Nat.le_refl _)
      rw [hfull] at HO HU
      obtain ⟨bs, hbs⟩ : ∃ bs, turned9 xs t j = bs := ⟨_, rfl⟩
      have hbl : bs.length = k := by rw [← hbs, turned9_length, HK.out]
      have hbt : total bs = u := by rw [← hbs, ← HN.out, turned9_sum, HU.out]
      have hbb : Bd bs := Bd.of (fun x hx => by have := turned9_le HX.out t j x (by rw [hbs]; exact hx); omega)
      have hxb : Bd xs := Bd.of (fun x hx => by have := HX.out x hx; omega)
      rw [hbs] at HO2
      have hs1 := sumV_of HU.out (by omega)
      have hs2 := sumV_of hbt (by omega)
      have hs3 := sumE_big (xs := xs ++ [18446744073709551615, 1]) (by rw [total_append]; simp [total_cons, total_nil])
      have HS1 : Hid (Calls Try.prog 43 #[.slice A3 j c3] wr fun e w' => e = .returned (.tuple #[.int .u64 (u : Int), .int .i64 0]) ∧ Mods Nil wr w') := Lib.hid (by have h := sum_any wr HN.out (by omega) hxb (own_sl HO.out); rw [hs1.1, hs1.2] at h; exact h)
      have HS2 : Hid (∀ V, Mods Nil wr V → Calls Try.prog 43 #[.slice A4 k c4] V fun e w' => e = .returned (.tuple #[.int .u64 (u : Int), .int .i64 0]) ∧ Mods Nil V w') := Lib.hid (fun V hV => by have h := sum_any V hbl (by omega) hbb ((own_sl HO2.out).mods hV (fun _ _ h => h)); rw [hs2.1, hs2.2] at h; exact h)
      have HS3 : Hid (∀ V A c, Sl V A c (nums (xs ++ [18446744073709551615, 1])) → Calls Try.prog 43 #[.slice A (j + 2) c] V fun e w' => e = .returned (.tuple #[.int .u64 0, .int .i64 37]) ∧ Mods Nil V w') := Lib.hid (fun V A c hV => by have h := sum_any V (n := j + 2) (by rw [List.length_append, HN.out]; rfl) (by omega) (Bd.of (fun x hx => by rcases List.mem_append.1 hx with h | h; (have := HX.out x h; omega); (simp at h; omega))) hV; rw [hs3.1, hs3.2] at h; exact h)
      clear hs1 hs2 hs3 hbs hbl hbt hbb hxb hfull
      go_wp2_with (first
        | (go_at_call 43; have hx := O5.out; clear hx; refine (HS3.out _ _ _ (own_sl O5.out)).mono ?_; rintro e w6 ⟨rfl, m6⟩; have M6 := Lib.hid (M5.out.trans m6); clear m6)
        | (at_builtin; refine wpList_append_sl _ rfl _ _ 83 rfl w.heap.size 37 i0 (.int .u64 0) 8 Try.underlying83 hi hz0 hz1 hz2 rfl _ j _ rfl (O4.out.alloc _) (some ⟨w4.heap.size, 0, none⟩) 2 2 [.int .u64 18446744073709551615, .int .u64 1] rfl rfl (build_at (n := 2) (by simp) rfl rfl (by decide)) (by simp [Value.oneCell']) (by omega) (by unfold maxLen; omega) (M4.out.alloc _).size ?_; intro v' w5 hown hgrow hmv; obtain ⟨A6, c6, rfl, e6, s6, b6⟩ := own_slice hown; rw [show [Value.int .u64 18446744073709551615, Value.int .u64 1] = nums [18446744073709551615, 1] from rfl, ← nums_append] at hown; have O5 := Lib.hid hown; have M5 := Lib.hid (show Mods Nil w w5 from (M4.out.alloc _).nil_trans ((Mods.refl (fun q => (Value.slice A3 j c3).ownBlock = some q) _).grown hgrow (fun q hq _ => hq)) (fun i h => (HO.out.lt i h).1)); clear hown hgrow hmv e6 s6 b6)
        | (go_at_call 43; have hx := M3.out; clear hx; refine (HS2.out _ M3.out).mono ?_; rintro e w4 ⟨rfl, m4⟩; have M4 := Lib.hid (HMO.out.trans (M3.out.trans m4)); have O4 := Lib.hid (own_mods (own_mods HO.out M3.out (fun _ _ h => h)) m4 (fun _ _ h => h)); clear m4)
        | (go_at_call 43; refine (HS1.out).mono ?_; rintro e w3 ⟨rfl, m3⟩; have M3 := Lib.hid m3; clear m3))
      go_ret
      exact ⟨rfl, M6.out⟩
end Go.Proofs.Ytdllgmhipenidaa
