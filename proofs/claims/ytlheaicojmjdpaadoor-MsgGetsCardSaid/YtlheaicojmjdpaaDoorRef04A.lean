/- Texts laid as one: Ref04a, Ref04b, Ref04c, Ref04d, Ref04e. -/
import Derived.Test.YtlheaicojmjdpaaDoorMsgA
import Derived.Test.YtlheaicojmjdpaaDoorBaseM
import Derived.Outline
import Derived.WalkLawsBesides
import Derived.Deep.QuietTactic
import Derived.BigQuiet
import Derived.Test.YtlheaicojmjdpaaDoorMsgB

import Derived.Deep.RegionHeld
import Derived.Test.YtlheaicojmjdpaaDoorRefM1

section
/- The reference of layer 4: the fields of a kind, as letters. -/
namespace Go.Proofs.YtlheaicojmjdpaaDoor
set_option maxRecDepth 100000
open Go.RowKit
set_option linter.unusedVariables false

/-- The letter of a field. -/
def lt : Nat → UInt8
  | 0 => 98
  | 1 => 115
  | 2 => 104
  | 3 => 103
  | 4 => 99
  | 5 => 113
  | 6 => 112
  | 7 => 100
  | 8 => 118
  | _ => 120
def fstr (k : Int) : List UInt8 := (fl k).map lt
theorem fstr_none {k : Int} (h : isK k = false) : fstr k = [] := by
  unfold fstr fl maskOf
  rw [if_neg (by simp [h])]
  rfl
theorem lt_inj : ∀ i, i < 10 → ∀ j, j < 10 → lt i = lt j → i = j := by
  refine ten_cases ?_ ?_ ?_ ?_ ?_ ?_ ?_ ?_ ?_ ?_ <;> (refine ten_cases ?_ ?_ ?_ ?_ ?_ ?_ ?_ ?_ ?_ ?_ <;> decide)

/-- The table of the letters. -/
def tabL : Array Value := #[.string ⟨#[]⟩, .string ⟨#[104, 103, 99, 113, 120]⟩, .string ⟨#[104, 103, 99, 113, 112, 100]⟩, .string ⟨#[104, 103, 99, 113, 112, 120]⟩, .string ⟨#[104, 103, 112]⟩, .string ⟨#[104, 103, 112]⟩, .string ⟨#[104, 103, 118]⟩,
  .string ⟨#[98, 115]⟩, .string ⟨#[98, 115, 120]⟩, .string ⟨#[98, 115, 120]⟩, .string ⟨#[98, 115]⟩, .string ⟨#[98]⟩, .string ⟨#[115, 120]⟩, .string ⟨#[115]⟩, .string ⟨#[99, 113, 112]⟩, .string ⟨#[104, 103, 99, 113, 112, 100, 120]⟩, .string ⟨#[104, 103, 99, 113, 112, 100]⟩, .string ⟨#[99, 113, 112, 100]⟩, .string ⟨#[98, 115]⟩]
theorem tabL_nat : ∀ n, 1 ≤ n → n ≤ 18 → tabL[n]? = some (.string (strOf (fstr (n : Int)))) := by
  intro n h1 h2
  match n, h1, h2 with
  | 1, _, _ => exact rfl
  | 2, _, _ => exact rfl
  | 3, _, _ => exact rfl
  | 4, _, _ => exact rfl
  | 5, _, _ => exact rfl
  | 6, _, _ => exact rfl
  | 7, _, _ => exact rfl
  | 8, _, _ => exact rfl
  | 9, _, _ => exact rfl
  | 10, _, _ => exact rfl
  | 11, _, _ => exact rfl
  | 12, _, _ => exact rfl
  | 13, _, _ => exact rfl
  | 14, _, _ => exact rfl
  | 15, _, _ => exact rfl
  | 16, _, _ => exact rfl
  | 17, _, _ => exact rfl
  | 18, _, _ => exact rfl
  | n + 19, _, h => exact absurd h (by omega)
theorem tabL_at {k : Int} (h1 : 1 ≤ k) (h2 : k ≤ 18) (w : World) : (w.alloc (.cells tabL 9)).cell? ⟨w.heap.size, k.toNat, none⟩ = some (.string (strOf (fstr k))) := by
  rw [(Blk.new w 9 tabL).cell, tabL_nat k.toNat (by omega) (by omega), Int.toNat_of_nonneg (by omega)]

set_option maxHeartbeats 4000000 in
theorem rfields_any (k : Int) (w : World) : Calls Tryd.prog 26 #[.int .i64 k] w fun e w' => e = .returned (.string (strOf (fstr k))) ∧ Mods Nil w w' := by
  by_cases hk : isK k = true
  · have hb : 1 ≤ k ∧ k ≤ 18 := by simpa [isK] using hk
    have h1 := hb.1
    have h2 := hb.2
    have hc := tabL_at h1 h2 w
    unfold tabL at hc
    go_enter Tryd.func26, Tryd.ntmps26
    go_wp2
    go_ret
    exact ⟨rfl, (Mods.refl _ _).alloc _⟩
  · have hk' : isK k = false := by simpa using hk
    rw [fstr_none hk']
    by_cases h1 : k < 1
    · go_enter Tryd.func26, Tryd.ntmps26
      go_wp2
      go_ret
      exact ⟨rfl, (Mods.refl _ _).alloc _⟩
    · have h2 : 18 < k := by simp [isK] at hk'; omega
      have h3 : 1 ≤ k := by omega
      go_enter Tryd.func26, Tryd.ntmps26
      go_wp2
      go_ret
      exact ⟨rfl, (Mods.refl _ _).alloc _⟩
end Go.Proofs.YtlheaicojmjdpaaDoor
end

section
/- The reference of layer 4: a message; a letter in a text; a field's number. -/
namespace Go.Proofs.YtlheaicojmjdpaaDoor
set_option maxRecDepth 100000
open Go.RowKit
set_option linter.unusedVariables false

/-- A message of the reference in memory: its numbers lie at A. -/
def RC (m : PM) (A : Option Addr) (c : Nat) : Array Value :=
  #[.int .i64 m.kind, .int .u64 m.ballot, .int .u64 m.slot, .int .i64 m.shard, .int .i64 m.seg, .int .u64 m.client, .int .u64 m.seq, .int .u64 m.pos, .int .i64 m.code, .slice A m.vec.length c, .string (strOf m.body)]
theorem Blk.rc {w : World} {g : Nat} {t : TypeId} {m : PM} {A : Option Addr} {c : Nat} (h : Blk w g t (RC m A c)) :
    w.cell? ⟨g, 0, none⟩ = some (.int .i64 m.kind) ∧ w.cell? ⟨g, 1, none⟩ = some (.int .u64 m.ballot) ∧ w.cell? ⟨g, 2, none⟩ = some (.int .u64 m.slot) ∧
    w.cell? ⟨g, 3, none⟩ = some (.int .i64 m.shard) ∧ w.cell? ⟨g, 4, none⟩ = some (.int .i64 m.seg) ∧ w.cell? ⟨g, 5, none⟩ = some (.int .u64 m.client) ∧
    w.cell? ⟨g, 6, none⟩ = some (.int .u64 m.seq) ∧ w.cell? ⟨g, 7, none⟩ = some (.int .u64 m.pos) ∧ w.cell? ⟨g, 8, none⟩ = some (.int .i64 m.code) ∧
    w.cell? ⟨g, 9, none⟩ = some (.slice A m.vec.length c) ∧ w.cell? ⟨g, 10, none⟩ = some (.string (strOf m.body)) :=
  ⟨h.cell 0, h.cell 1, h.cell 2, h.cell 3, h.cell 4, h.cell 5, h.cell 6, h.cell 7, h.cell 8, h.cell 9, h.cell 10⟩
theorem RC_one (m : PM) (A : Option Addr) (c : Nat) : (RC m A c).all (·.oneCell') = true := by simp [RC, Value.oneCell']
theorem RC_cells (m : PM) (A : Option Addr) (c : Nat) : (Value.agg (RC m A c)).cells = RC m A c := by simp [RC, Value.cells]
theorem RC_info : (Tryd.prog.info? 36).map (·.size) = some 11 := by kernel_rfl

theorem rin_any (xs : List UInt8) (c : UInt8) (hl : xs.length ≤ 1000) (w : World) : Calls Tryd.prog 36 #[.string (strOf xs), .int .u8 (c.toNat : Int)] w fun e w' => e = .returned (.bool (decide (c ∈ xs))) ∧ w = w' := by
  obtain ⟨n, hn⟩ : ∃ n, xs.length = n := ⟨_, rfl⟩
  have hsz : (strOf xs).size = n := by simp [hn]
  have HN := Lib.hid hn
  clear hn
  go_enter Tryd.func36, Tryd.ntmps36
  go_wp2_with fail
  go_loop [5] (fun i => ∃ j : Nat, j ≤ n ∧ i = .int .i64 j ∧ c ∉ xs.take j) (fun i => n - (intOf i).toNat)
  case atStart => exact ⟨0, by omega, rfl, by simp⟩
  case round =>
    obtain ⟨j, hj, rfl, hno⟩ := hrel
    by_cases hlt : j < n
    · have hltI : (j : Int) < (n : Int) := by omega
      have hjl : j < xs.length := by have := HN.out; omega
      have hq := fun W => index_strOf W xs j hjl
      have hsn := take_snoc' xs j hjl
      have HSN := Lib.hid hsn
      have HNO := Lib.hid hno
      by_cases hc : xs[j] = c
      · have hmem : c ∈ xs := by rw [← hc]; exact List.getElem_mem hjl
        rw [hc] at hq
        have HM := Lib.hid hmem
        clear hc hsn hno hmem
        go_wp2_with fail
        go_ret
        exact ⟨by rw [decide_eq_true HM.out]; rfl, rfl⟩
      · have hne : ((xs[j].toNat : Int) == (c.toNat : Int)) = false := by
          rw [beq_eq_false_iff_ne]
          intro h
          exact hc (UInt8.toNat.inj (by omega))
        have HC := Lib.hid hc
        clear hsn hno hc
        go_wp2_with fail
        refine ⟨⟨j + 1, by omega, by go_num, ?_⟩, by simp [intOf]; omega⟩
        rw [HSN.out]
        intro h
        rcases List.mem_append.1 h with h | h
        · exact HNO.out h
        · exact HC.out (List.mem_singleton.1 h).symm
    · obtain rfl : j = n := by omega
      have hnm : c ∉ xs := by rw [List.take_of_length_le (by have := HN.out; omega)] at hno; exact hno
      have HM := Lib.hid hnm
      clear hno hnm
      go_wp2_with fail
      go_ret
      exact ⟨by rw [decide_eq_false HM.out]; rfl, rfl⟩

set_option maxHeartbeats 4000000 in
theorem rnumber_any (m : PM) (A : Option Addr) (c : Nat) (hv : m.vec.length ≤ 140737488355328) (hb : m.body.length ≤ 140737488355328) (w : World) :
    ∀ j, j < 10 → Calls Tryd.prog 37 #[.agg (RC m A c), .int .u8 ((lt j).toNat : Int)] w fun e w' => e = .returned (.int .u64 ((amt m j : Nat) : Int)) ∧ Mods Nil w w' := by
  have hx : ∀ j v, Calls Tryd.prog 37 #[.agg (RC m A c), .int .u8 v] w (fun e w' => e = .returned (.int .u64 ((amt m j : Nat) : Int)) ∧ Mods Nil w w') → ((lt j).toNat : Int) = v → Calls Tryd.prog 37 #[.agg (RC m A c), .int .u8 ((lt j).toNat : Int)] w fun e w' => e = .returned (.int .u64 ((amt m j : Nat) : Int)) ∧ Mods Nil w w' := fun j v h e => by rw [e]; exact h
  obtain ⟨c0, c1, c2, c3, c4, c5, c6, c7, c8, c9, c10⟩ := (Blk.new w 36 (RC m A c)).rc
  have w8 := wrap_len _ hv
  have w9 := wrap_len _ hb
  have hsz : (strOf m.body).size = m.body.length := by simp
  clear hv hb
  refine ten_cases (hx _ 98 ?_ rfl) (hx _ 115 ?_ rfl) (hx _ 104 ?_ rfl) (hx _ 103 ?_ rfl) (hx _ 99 ?_ rfl) (hx _ 113 ?_ rfl) (hx _ 112 ?_ rfl) (hx _ 100 ?_ rfl) (hx _ 118 ?_ rfl) (hx _ 120 ?_ rfl)
  all_goals
    clear hx
    go_enter Tryd.func37, Tryd.ntmps37
    go_wp2
    go_ret
    refine ⟨?_, (Mods.refl _ _).alloc _⟩
    first | rfl | (show Ending.returned (.int .u64 (IntKind.u64.wrap _)) = _; rw [wrap_amt]; rfl)
end Go.Proofs.YtlheaicojmjdpaaDoor
end

section
/- The reference of layer 4: Check. -/
namespace Go.Proofs.YtlheaicojmjdpaaDoor
set_option maxRecDepth 100000
open Go.RowKit
set_option linter.unusedVariables false

theorem fstr_len (k : Int) : (fstr k).length ≤ 10 := by
  unfold fstr fl sel
  rw [List.length_map]
  exact Nat.le_trans (List.length_filter_le _ _) (by simp)
theorem fstr_mem {k : Int} {j : Nat} (hj : j < 10) : lt j ∈ fstr k ↔ own k j = true := by
  unfold fstr
  rw [List.mem_map]
  constructor
  · rintro ⟨i, hi, he⟩
    have hi2 := fl_mem.1 hi
    rw [← lt_inj i hi2.1 j hj he]
    exact hi2.2
  · intro h
    exact ⟨j, fl_mem.2 ⟨hj, h⟩, rfl⟩
theorem fstr_ne {k : Int} (h : isK k = true) : fstr k ≠ [] := by
  have hb : 1 ≤ k ∧ k ≤ 18 := by simpa [isK] using h
  have hall : ∀ n : Nat, n < 19 → 1 ≤ n → fstr (n : Int) ≠ [] := by decide
  have := hall k.toNat (by omega) (by omega)
  rwa [Int.toNat_of_nonneg (by omega)] at this
theorem ten_cases' {p : (j : Nat) → j < 10 → Prop} (h0 : p 0 (by omega)) (h1 : p 1 (by omega)) (h2 : p 2 (by omega)) (h3 : p 3 (by omega)) (h4 : p 4 (by omega)) (h5 : p 5 (by omega)) (h6 : p 6 (by omega)) (h7 : p 7 (by omega)) (h8 : p 8 (by omega)) (h9 : p 9 (by omega)) : ∀ j h, p j h := by
  intro j hj
  match j, hj with
  | 0, _ => exact h0
  | 1, _ => exact h1
  | 2, _ => exact h2
  | 3, _ => exact h3
  | 4, _ => exact h4
  | 5, _ => exact h5
  | 6, _ => exact h6
  | 7, _ => exact h7
  | 8, _ => exact h8
  | 9, _ => exact h9
def lets : List UInt8 := [98, 115, 104, 103, 99, 113, 112, 100, 118, 120]
theorem lets_at (j : Nat) (hj : j < 10) (W : World) : (Instr.index 9 (.string ⟨#[98, 115, 104, 103, 99, 113, 112, 100, 118, 120]⟩) (.int .i64 (j : Int))).run Tryd.prog W = .ok (.int .u8 ((lt j).toNat : Int)) W := by
  have h := index_strOf W lets j hj
  have e : ∀ j (h : j < 10), lets[j]'h = lt j := by
    refine ten_cases' ?_ ?_ ?_ ?_ ?_ ?_ ?_ ?_ ?_ ?_ <;> rfl
  rw [e j hj] at h
  exact h
theorem bad_over {m : PM} {j : Nat} (h : most j < amt m j) : bad m j = true := by simp [bad, h]

theorem out_cases (m : PM) (ho : m.ok) (hk : isK m.kind = true) :
    (chk m = 1 ∧ m.shard < 0) ∨ (chk m = 1 ∧ 0 ≤ m.shard ∧ 7 < m.shard) ∨ (chk m = 1 ∧ 0 ≤ m.shard ∧ m.shard ≤ 7 ∧ m.seg < 0) ∨ (chk m = 1 ∧ 0 ≤ m.shard ∧ m.shard ≤ 7 ∧ 0 ≤ m.seg ∧ 3 < m.seg) ∨
    (chk m = 1 ∧ 0 ≤ m.shard ∧ m.shard ≤ 7 ∧ 0 ≤ m.seg ∧ m.seg ≤ 3 ∧ m.code < 0) ∨ (chk m = 1 ∧ 0 ≤ m.shard ∧ m.shard ≤ 7 ∧ 0 ≤ m.seg ∧ m.seg ≤ 3 ∧ 0 ≤ m.code ∧ 255 < m.code) ∨
    (chk m = 1 ∧ 0 ≤ m.shard ∧ m.shard ≤ 7 ∧ 0 ≤ m.seg ∧ m.seg ≤ 3 ∧ 0 ≤ m.code ∧ m.code ≤ 255 ∧ (256 : Int) < (m.vec.length : Int)) ∨
    (chk m = 1 ∧ 0 ≤ m.shard ∧ m.shard ≤ 7 ∧ 0 ≤ m.seg ∧ m.seg ≤ 3 ∧ 0 ≤ m.code ∧ m.code ≤ 255 ∧ (m.vec.length : Int) ≤ 256 ∧ (32768 : Int) < (m.body.length : Int)) ∨
    ((0 ≤ m.shard ∧ m.shard ≤ 7 ∧ 0 ≤ m.seg ∧ m.seg ≤ 3 ∧ 0 ≤ m.code ∧ m.code ≤ 255 ∧ (m.vec.length : Int) ≤ 256 ∧ (m.body.length : Int) ≤ 32768) ∧ ∀ j, j < 10 → amt m j ≤ most j) := by
  have c : ∀ j, j < 10 → most j < amt m j → chk m = 1 := fun j hj h => chk_one_of hk ⟨j, hj, bad_over h⟩
  have s2 := ho.shard; have s3 := ho.seg; have s7 := ho.code
  have e2 : amt m 2 = (m.shard % 18446744073709551616).toNat := rfl
  have e3 : amt m 3 = (m.seg % 18446744073709551616).toNat := rfl
  have e7 : amt m 7 = (m.code % 18446744073709551616).toNat := rfl
  have m2 : most 2 = 7 := rfl
  have m3 : most 3 = 3 := rfl
  have m7 : most 7 = 255 := rfl
  by_cases h1 : m.shard < 0
  · exact .inl ⟨c 2 (by omega) (by rw [e2, m2]; omega), h1⟩
  by_cases h2 : 7 < m.shard
  · exact .inr (.inl ⟨c 2 (by omega) (by rw [e2, m2]; omega), by omega, h2⟩)
  by_cases h3 : m.seg < 0
  · exact .inr (.inr (.inl ⟨c 3 (by omega) (by rw [e3, m3]; omega), by omega, by omega, h3⟩))
  by_cases h4 : 3 < m.seg
  · exact .inr (.inr (.inr (.inl ⟨c 3 (by omega) (by rw [e3, m3]; omega), by omega, by omega, by omega, h4⟩)))
  by_cases h5 : m.code < 0
  · exact .inr (.inr (.inr (.inr (.inl ⟨c 7 (by omega) (by rw [e7, m7]; omega), by omega, by omega, by omega, by omega, h5⟩))))
  by_cases h6 : 255 < m.code
  · exact .inr (.inr (.inr (.inr (.inr (.inl ⟨c 7 (by omega) (by rw [e7, m7]; omega), by omega, by omega, by omega, by omega, by omega, h6⟩)))))
  by_cases h7 : 256 < m.vec.length
  · exact .inr (.inr (.inr (.inr (.inr (.inr (.inl ⟨c 8 (by omega) h7, by omega, by omega, by omega, by omega, by omega, by omega, by omega⟩))))))
  by_cases h8 : 32768 < m.body.length
  · exact .inr (.inr (.inr (.inr (.inr (.inr (.inr (.inl ⟨c 9 (by omega) h8, by omega, by omega, by omega, by omega, by omega, by omega, by omega, by omega⟩)))))))
  refine .inr (.inr (.inr (.inr (.inr (.inr (.inr (.inr ⟨⟨by omega, by omega, by omega, by omega, by omega, by omega, by omega, by omega⟩, ?_⟩)))))))
  have k0 := ho.ballot; have k1 := ho.slot; have k4 := ho.client; have k5 := ho.seq; have k6 := ho.pos
  refine ten_cases ?_ ?_ ?_ ?_ ?_ ?_ ?_ ?_ ?_ ?_ <;> (simp only [amt, most]; omega)

set_option maxHeartbeats 8000000 in
theorem rcheck_bad {w : World} {m : PM} {A : Option Addr} {c : Nat} (ho : m.ok) (hk : isK m.kind = false) :
    Calls Tryd.prog 18 #[.agg (RC m A c)] w fun e w' => e = .returned (.int .i64 1) ∧ Mods Nil w w' := by
  obtain ⟨c0, c1, c2, c3, c4, c5, c6, c7, c8, c9, c10⟩ := (Blk.new w 36 (RC m A c)).rc
  have HF : Hid (∀ W, Calls Tryd.prog 26 #[.int .i64 m.kind] W fun e w' => e = .returned (.string ⟨#[]⟩) ∧ Mods Nil W w') := fun W => by
    have := rfields_any m.kind W
    rw [fstr_none hk] at this
    exact this
  clear hk ho
  go_enter Tryd.func18, Tryd.ntmps18
  go_wp2_with (go_at_call 26; refine (HF.out _).mono ?_; rintro e w2 ⟨rfl, m2⟩; have M2 := Lib.hid (((Mods.refl Nil w).alloc _).trans m2); clear m2)
  go_ret
  exact ⟨rfl, M2.out⟩

set_option maxHeartbeats 16000000 in
theorem rcheck_out {w : World} {m : PM} {A : Option Addr} {c : Nat} (ho : m.ok) (hk : isK m.kind = true)
    (h : (chk m = 1 ∧ m.shard < 0) ∨ (chk m = 1 ∧ 0 ≤ m.shard ∧ 7 < m.shard) ∨ (chk m = 1 ∧ 0 ≤ m.shard ∧ m.shard ≤ 7 ∧ m.seg < 0) ∨ (chk m = 1 ∧ 0 ≤ m.shard ∧ m.shard ≤ 7 ∧ 0 ≤ m.seg ∧ 3 < m.seg) ∨
    (chk m = 1 ∧ 0 ≤ m.shard ∧ m.shard ≤ 7 ∧ 0 ≤ m.seg ∧ m.seg ≤ 3 ∧ m.code < 0) ∨ (chk m = 1 ∧ 0 ≤ m.shard ∧ m.shard ≤ 7 ∧ 0 ≤ m.seg ∧ m.seg ≤ 3 ∧ 0 ≤ m.code ∧ 255 < m.code) ∨
    (chk m = 1 ∧ 0 ≤ m.shard ∧ m.shard ≤ 7 ∧ 0 ≤ m.seg ∧ m.seg ≤ 3 ∧ 0 ≤ m.code ∧ m.code ≤ 255 ∧ (256 : Int) < (m.vec.length : Int)) ∨
    (chk m = 1 ∧ 0 ≤ m.shard ∧ m.shard ≤ 7 ∧ 0 ≤ m.seg ∧ m.seg ≤ 3 ∧ 0 ≤ m.code ∧ m.code ≤ 255 ∧ (m.vec.length : Int) ≤ 256 ∧ (32768 : Int) < (m.body.length : Int))) :
    Calls Tryd.prog 18 #[.agg (RC m A c)] w fun e w' => e = .returned (.int .i64 (chk m)) ∧ Mods Nil w w' := by
  have hB := Blk.new w 36 (RC m A c)
  obtain ⟨c0, c1, c2, c3, c4, c5, c6, c7, c8, c9, c10⟩ := hB.rc
  have HB := Lib.hid hB
  have hsz : (strOf m.body).size = m.body.length := by simp
  have hfe := fstr_ne hk
  have hst := strOf_toList (fstr m.kind)
  have HK := Lib.hid hk
  have HO := Lib.hid ho
  rcases h with ⟨h0, h1⟩ | ⟨h0, h1, h2⟩ | ⟨h0, h1, h2, h3⟩ | ⟨h0, h1, h2, h3, h4⟩ | ⟨h0, h1, h2, h3, h4, h5⟩ | ⟨h0, h1, h2, h3, h4, h5, h6⟩ | ⟨h0, h1, h2, h3, h4, h5, h6, h7⟩ | ⟨h0, h1, h2, h3, h4, h5, h6, h7, h8⟩
  all_goals
    rw [h0]
    clear hB h0 ho hk
    go_enter Tryd.func18, Tryd.ntmps18
    go_wp2_with (go_at_call 26; refine (rfields_any _ _).mono ?_; rintro e w2 ⟨rfl, m2⟩; obtain ⟨d0, d1, d2, d3, d4, d5, d6, d7, d8, d9, d10⟩ := (HB.out.mods m2 (fun h => h)).rc; have M2 := Lib.hid (((Mods.refl Nil w).alloc _).trans m2); clear m2)
    go_ret
    exact ⟨rfl, M2.out⟩

end Go.Proofs.YtlheaicojmjdpaaDoor
end

section
/- The reference of layer 4: Check, of what may be. -/
namespace Go.Proofs.YtlheaicojmjdpaaDoor
set_option maxRecDepth 100000
open Go.RowKit
set_option linter.unusedVariables false

theorem snoc_nat {p : Nat → Bool} {j : Nat} (h : ∀ q, q < j → p q = false) (hj : p j = false) : ∀ q, q < j + 1 → p q = false := fun q hq => by
  by_cases e : q = j
  · rw [e]; exact hj
  · exact h q (by omega)

set_option maxHeartbeats 16000000 in
theorem rcheck_in {w : World} {m : PM} {A : Option Addr} {c : Nat} (ho : m.ok) (hk : isK m.kind = true)
    (h1 : 0 ≤ m.shard) (h2 : m.shard ≤ 7) (h3 : 0 ≤ m.seg) (h4 : m.seg ≤ 3) (h5 : 0 ≤ m.code) (h6 : m.code ≤ 255) (h7 : (m.vec.length : Int) ≤ 256) (h8 : (m.body.length : Int) ≤ 32768) (h9 : ∀ j, j < 10 → amt m j ≤ most j) :
    Calls Tryd.prog 18 #[.agg (RC m A c)] w fun e w' => e = .returned (.int .i64 (chk m)) ∧ Mods Nil w w' := by
  have hB := Blk.new w 36 (RC m A c)
  obtain ⟨c0, c1, c2, c3, c4, c5, c6, c7, c8, c9, c10⟩ := hB.rc
  have HB := Lib.hid hB
  have hsz : (strOf m.body).size = m.body.length := by simp
  have hfe := fstr_ne hk
  have hst := strOf_toList (fstr m.kind)
  have HK := Lib.hid hk
  have HO := Lib.hid ho
  have x0 : (fstr m.kind).isEmpty = false := by cases h : fstr m.kind with | nil => exact absurd h hfe | cons _ _ => rfl
  have x1 : decide (m.shard < 0) = false := by rw [decide_eq_false_iff_not]; omega
  have x2 : decide (7 < m.shard) = false := by rw [decide_eq_false_iff_not]; omega
  have x3 : decide (m.seg < 0) = false := by rw [decide_eq_false_iff_not]; omega
  have x4 : decide (3 < m.seg) = false := by rw [decide_eq_false_iff_not]; omega
  have x5 : decide (m.code < 0) = false := by rw [decide_eq_false_iff_not]; omega
  have x6 : decide (255 < m.code) = false := by rw [decide_eq_false_iff_not]; omega
  have x7 : decide (256 < m.vec.length) = false := by rw [decide_eq_false_iff_not]; omega
  have x8 : decide (32768 < m.body.length) = false := by rw [decide_eq_false_iff_not]; omega
  have H9 := Lib.hid h9
  clear hB ho hk h9
  go_enter Tryd.func18, Tryd.ntmps18
  go_wp2_with (go_at_call 26; refine (rfields_any _ _).mono ?_; rintro e w2 ⟨rfl, m2⟩; have b2 := HB.out.mods m2 (fun h => h); obtain ⟨d0, d1, d2, d3, d4, d5, d6, d7, d8, d9, d10⟩ := b2.rc; have B2 := Lib.hid b2; have M2 := Lib.hid (((Mods.refl Nil w).alloc _).trans m2); clear m2 b2)
  go_loopw [5] (fun i wr => ∃ j : Nat, j ≤ 10 ∧ i = .int .i64 j ∧ Mods Nil w2 wr ∧ ∀ q, q < j → bad m q = false) (fun i _ => 10 - (intOf i).toNat)
  case atStart => exact ⟨0, by omega, rfl, Mods.refl _ _, fun q h => by omega⟩
  case round =>
    obtain ⟨j, hj, rfl, hm, hno⟩ := hrel
    clear c0 c1 c2 c3 c4 c5 c6 c7 c8 c9 c10 d0 d1 d2 d3 d4 d5 d6 d7 d8 d9 d10 h1 h2 h3 h4 h5 h6 h7 h8 x0 x1 x2 x3 x4 x5 x6 x7 x8 hfe hst
    have br := B2.out.mods hm (fun h => h)
    have BR := Lib.hid br
    have HM := Lib.hid hm
    have HNO := Lib.hid hno
    clear br hm hno
    by_cases hlt : j < 10
    · have hltI : (j : Int) < 10 := by omega
      have hq := lets_at j hlt
      have hle := H9.out j hlt
      by_cases hown : own m.kind j = true
      · have HIN : Hid (∀ W, Calls Tryd.prog 36 #[.string (strOf (fstr m.kind)), .int .u8 ((lt j).toNat : Int)] W fun e w' => e = .returned (.bool true) ∧ W = w') := fun W => by
          have := rin_any (fstr m.kind) (lt j) (by have := fstr_len m.kind; omega) W
          rwa [decide_eq_true ((fstr_mem hlt).2 hown)] at this
        have HBAD := Lib.hid (show bad m j = false by simp [bad, hown]; omega)
        clear hown hle
        go_wp2_with (go_at_call 36; refine (HIN.out _).mono ?_; rintro e w3 ⟨rfl, rfl⟩)
        go_quiet (fail)
        go_wp2_with fail
        exact ⟨⟨j + 1, by omega, by go_num, HM.out.drewN _, snoc_nat HNO.out HBAD.out⟩, by simp [intOf]; omega⟩
      · have HIN : Hid (∀ W, Calls Tryd.prog 36 #[.string (strOf (fstr m.kind)), .int .u8 ((lt j).toNat : Int)] W fun e w' => e = .returned (.bool false) ∧ W = w') := fun W => by
          have := rin_any (fstr m.kind) (lt j) (by have := fstr_len m.kind; omega) W
          rwa [decide_eq_false (fun h => hown ((fstr_mem hlt).1 h))] at this
        obtain ⟨q, hqq⟩ : ∃ q, amt m j = q := ⟨_, rfl⟩
        have HNU : Hid (∀ W, Calls Tryd.prog 37 #[.agg (RC m A c), .int .u8 ((lt j).toNat : Int)] W fun e w' => e = .returned (.int .u64 ((q : Nat) : Int)) ∧ Mods Nil W w') := fun W => by
          rw [← hqq]; exact rnumber_any m A c HO.out.vlen HO.out.blen W j hlt
        have hcell : ∀ W, Mods Nil wr W → (W.cell? ⟨w.heap.size, 0, none⟩ = some (.int .i64 m.kind) ∧ W.cell? ⟨w.heap.size, 1, none⟩ = some (.int .u64 m.ballot) ∧ W.cell? ⟨w.heap.size, 2, none⟩ = some (.int .u64 m.slot) ∧
    W.cell? ⟨w.heap.size, 3, none⟩ = some (.int .i64 m.shard) ∧ W.cell? ⟨w.heap.size, 4, none⟩ = some (.int .i64 m.seg) ∧ W.cell? ⟨w.heap.size, 5, none⟩ = some (.int .u64 m.client) ∧
    W.cell? ⟨w.heap.size, 6, none⟩ = some (.int .u64 m.seq) ∧ W.cell? ⟨w.heap.size, 7, none⟩ = some (.int .u64 m.pos) ∧ W.cell? ⟨w.heap.size, 8, none⟩ = some (.int .i64 m.code) ∧
    W.cell? ⟨w.heap.size, 9, none⟩ = some (.slice A m.vec.length c) ∧ W.cell? ⟨w.heap.size, 10, none⟩ = some (.string (strOf m.body))) := fun W h => (BR.out.mods h (fun h => h)).rc
        have k0 := fun W h => (hcell W h).1
        have k1 := fun W h => (hcell W h).2.1
        have k2 := fun W h => (hcell W h).2.2.1
        have k3 := fun W h => (hcell W h).2.2.2.1
        have k4 := fun W h => (hcell W h).2.2.2.2.1
        have k5 := fun W h => (hcell W h).2.2.2.2.2.1
        have k6 := fun W h => (hcell W h).2.2.2.2.2.2.1
        have k7 := fun W h => (hcell W h).2.2.2.2.2.2.2.1
        have k8 := fun W h => (hcell W h).2.2.2.2.2.2.2.2.1
        have k9 := fun W h => (hcell W h).2.2.2.2.2.2.2.2.2.1
        have k10 := fun W h => (hcell W h).2.2.2.2.2.2.2.2.2.2
        clear hcell
        by_cases h0 : q = 0
        · subst h0
          have HBAD := Lib.hid (show bad m j = false by simp [bad, hown, hqq])
          clear hown hle hqq
          go_wp2_with (go_at_call 36; refine (HIN.out _).mono ?_; rintro e w3 ⟨rfl, rfl⟩)
          go_region_held (fun W => Mods Nil wr W) (first | exact (Mods.refl Nil wr).drew | assumption) (first
            | (go_at_call 37; refine (HNU.out _).mono ?_; rintro e w4 ⟨rfl, m4⟩; have hq4 : Mods Nil wr w4 := Mods.trans (by first | exact (Mods.refl Nil wr).drew | assumption) m4; clear m4))
          all_goals
            go_wp2_with fail
            exact ⟨⟨j + 1, by omega, by go_num, HM.out.trans (by assumption), snoc_nat HNO.out HBAD.out⟩, by simp [intOf]; omega⟩
        · have h0b : ((q : Int) != 0) = true := by simp; omega
          have HC := Lib.hid (show chk m = 1 from chk_one_of HK.out ⟨j, hlt, by simp [bad, hown, hqq]; omega⟩)
          clear hown hle hqq
          go_wp2_with (go_at_call 36; refine (HIN.out _).mono ?_; rintro e w3 ⟨rfl, rfl⟩)
          go_region_held (fun W => Mods Nil wr W) (first | exact (Mods.refl Nil wr).drew | assumption) (first
            | (go_at_call 37; refine (HNU.out _).mono ?_; rintro e w4 ⟨rfl, m4⟩; have hq4 : Mods Nil wr w4 := Mods.trans (by first | exact (Mods.refl Nil wr).drew | assumption) m4; clear m4))
          all_goals
            go_wp2_with fail
            go_ret
            exact ⟨by rw [HC.out]; rfl, (M2.out.trans HM.out).trans (by assumption)⟩
    · obtain rfl : j = 10 := by omega
      have HC := Lib.hid (show chk m = 0 from chk_zero_of HK.out (fun q h => HNO.out q h))
      go_wp2_with fail
      go_ret
      exact ⟨by rw [HC.out]; rfl, M2.out.trans HM.out⟩

end Go.Proofs.YtlheaicojmjdpaaDoor
end

section
/- The reference of layer 4: a message's fields, as they are put. -/
namespace Go.Proofs.YtlheaicojmjdpaaDoor
set_option maxRecDepth 100000
open Go.RowKit
set_option linter.unusedVariables false

theorem rcheck_any {w : World} {m : PM} {A : Option Addr} {c : Nat} (ho : m.ok) :
    Calls Tryd.prog 18 #[.agg (RC m A c)] w fun e w' => e = .returned (.int .i64 (chk m)) ∧ Mods Nil w w' := by
  by_cases hk : isK m.kind = true
  · rcases out_cases m ho hk with h | h | h | h | h | h | h | h | ⟨⟨h1, h2, h3, h4, h5, h6, h7, h8⟩, h9⟩
    · exact rcheck_out ho hk (.inl h)
    · exact rcheck_out ho hk (.inr (.inl h))
    · exact rcheck_out ho hk (.inr (.inr (.inl h)))
    · exact rcheck_out ho hk (.inr (.inr (.inr (.inl h))))
    · exact rcheck_out ho hk (.inr (.inr (.inr (.inr (.inl h)))))
    · exact rcheck_out ho hk (.inr (.inr (.inr (.inr (.inr (.inl h))))))
    · exact rcheck_out ho hk (.inr (.inr (.inr (.inr (.inr (.inr (.inl h)))))))
    · exact rcheck_out ho hk (.inr (.inr (.inr (.inr (.inr (.inr (.inr h)))))))
    · exact rcheck_in ho hk h1 h2 h3 h4 h5 h6 h7 h8 h9
  · have hk' : isK m.kind = false := by simpa using hk
    have h1 : chk m = 1 := by unfold chk; rw [if_pos hk']
    rw [h1]
    exact rcheck_bad ho hk'

theorem putFs_take {m : PM} (ho : m.ok) (hg : Good m) (j : Nat) : (putFs m ((fl m.kind).take j)).length ≤ 35162 := by
  have h := bodyOf_length ho hg
  unfold bodyOf at h
  rw [← List.take_append_drop j (fl m.kind), putFs_append, List.length_append] at h
  omega
theorem fl_len (k : Int) : (fl k).length ≤ 10 := by
  have := fstr_len k
  unfold fstr at this
  simpa using this
theorem fstr_at {k : Int} {j : Nat} (h : j < (fl k).length) (W : World) : (Instr.index 9 (.string (strOf (fstr k))) (.int .i64 (j : Int))).run Tryd.prog W = .ok (.int .u8 ((lt (fl k)[j]).toNat : Int)) W := by
  have h' : j < (fstr k).length := by unfold fstr; simpa using h
  have := index_strOf W (fstr k) j h'
  have e : (fstr k)[j] = lt (fl k)[j] := List.getElem_map _
  rw [e] at this
  exact this
theorem lt_x : ∀ j, j < 10 → j ≠ 9 → (((lt j).toNat : Int) == 120) = false := ten_cases (by decide) (by decide) (by decide) (by decide) (by decide) (by decide) (by decide) (by decide) (by decide) (by decide)
theorem lt_v : ∀ j, j < 10 → j ≠ 8 → (((lt j).toNat : Int) == 118) = false := ten_cases (by decide) (by decide) (by decide) (by decide) (by decide) (by decide) (by decide) (by decide) (by decide) (by decide)

theorem nums_get' (xs : List Nat) (j : Nat) (h : j < xs.length) : (nums xs)[j]? = some (.int .u64 ((xs[j] : Nat) : Int)) := by simp [nums, h]
theorem nums_length' (xs : List Nat) : (nums xs).length = xs.length := by simp [nums]

set_option maxHeartbeats 16000000 in
theorem rbody_any {w : World} {m : PM} {A : Option Addr} {c : Nat} (ho : m.ok) (hg : Good m) (hs : Sl w A c (nums m.vec)) :
    Calls Tryd.prog 33 #[.agg (RC m A c)] w fun e w' => e = .returned (.string (strOf (bodyOf m))) ∧ Mods Nil w w' := by
  have hB := Blk.new w 36 (RC m A c)
  have k0' := hB.rc.1
  have HB := Lib.hid hB
  obtain ⟨n, hn⟩ : ∃ n, (fl m.kind).length = n := ⟨_, rfl⟩
  have hsz : (strOf (fstr m.kind)).size = n := by simp [fstr, hn]
  have hn10 : n ≤ 10 := by rw [← hn]; exact fl_len m.kind
  have hbz : (strOf m.body).size = m.body.length := by simp
  have HN := Lib.hid hn
  have HO := Lib.hid ho
  have HG := Lib.hid hg
  have HS := Lib.hid hs
  have HM := Lib.hid ((Mods.refl Nil w).alloc (.cells (RC m A c) 36))
  clear hB hn ho hg hs
  go_enter Tryd.func33, Tryd.ntmps33
  go_wp2_with (go_at_call 26; refine (rfields_any _ _).mono ?_; rintro e w2 ⟨rfl, m2⟩; have B2 := Lib.hid (HB.out.mods m2 (fun h => h)); have M2 := Lib.hid (HM.out.trans m2); clear m2)
  go_loopw [4, 5] (fun s i wr => ∃ j : Nat, j ≤ n ∧ i = .int .i64 j ∧ s = .string (strOf (putFs m ((fl m.kind).take j))) ∧ Mods Nil w2 wr) (fun _ i _ => n - (intOf i).toNat)
  case atStart => exact ⟨0, by omega, rfl, rfl, Mods.refl _ _⟩
  case round =>
    obtain ⟨j, hj, rfl, rfl, hm⟩ := hrel
    clear k0'
    have HMR := Lib.hid hm
    clear hm
    by_cases hlt : j < n
    · have hltI : (j : Int) < (n : Int) := by omega
      have hjl : j < (fl m.kind).length := by rw [HN.out]; exact hlt
      have hidx := fstr_at hjl
      obtain ⟨x, hx⟩ : ∃ x, (fl m.kind)[j] = x := ⟨_, rfl⟩
      have hx10 : x < 10 := by rw [← hx]; exact (fl_mem.1 (List.getElem_mem hjl)).1
      have hsn : putFs m ((fl m.kind).take (j + 1)) = putFs m ((fl m.kind).take j) ++ putF m x := by
        rw [List.take_add_one, List.getElem?_eq_getElem hjl, hx]; simp only [Option.toList_some]; rw [putFs_snoc]
      rw [hx] at hidx
      have HSN := Lib.hid hsn
      have hpl := putFs_take HO.out HG.out j
      have hpl2 := putFs_take HO.out HG.out (j + 1)
      rw [hsn] at hpl2
      obtain ⟨S, hS⟩ : ∃ S, putFs m ((fl m.kind).take j) = S := ⟨_, rfl⟩
      rw [hS] at hpl hpl2 ⊢
      have HSS := Lib.hid hS
      obtain ⟨q, hqq⟩ : ∃ q, amt m x = q := ⟨_, rfl⟩
      have hq64 : q < 18446744073709551616 := by rw [← hqq]; exact amt_lt HO.out x
      have hul := putU_length q hq64
      have HNU : Hid (∀ W, Calls Tryd.prog 37 #[.agg (RC m A c), .int .u8 ((lt x).toNat : Int)] W fun e w' => e = .returned (.int .u64 ((q : Nat) : Int)) ∧ Mods Nil W w') := fun W => by
        rw [← hqq]; exact rnumber_any m A c HO.out.vlen HO.out.blen W x hx10
      have hcell : ∀ W, Mods Nil wr W → (W.cell? ⟨w.heap.size, 0, none⟩ = some (.int .i64 m.kind) ∧ W.cell? ⟨w.heap.size, 1, none⟩ = some (.int .u64 m.ballot) ∧ W.cell? ⟨w.heap.size, 2, none⟩ = some (.int .u64 m.slot) ∧
    W.cell? ⟨w.heap.size, 3, none⟩ = some (.int .i64 m.shard) ∧ W.cell? ⟨w.heap.size, 4, none⟩ = some (.int .i64 m.seg) ∧ W.cell? ⟨w.heap.size, 5, none⟩ = some (.int .u64 m.client) ∧
    W.cell? ⟨w.heap.size, 6, none⟩ = some (.int .u64 m.seq) ∧ W.cell? ⟨w.heap.size, 7, none⟩ = some (.int .u64 m.pos) ∧ W.cell? ⟨w.heap.size, 8, none⟩ = some (.int .i64 m.code) ∧
    W.cell? ⟨w.heap.size, 9, none⟩ = some (.slice A m.vec.length c) ∧ W.cell? ⟨w.heap.size, 10, none⟩ = some (.string (strOf m.body))) := fun W h => (B2.out.mods (HMR.out.trans h) (fun h => h)).rc
      have k0 := fun W h => (hcell W h).1
      have k1 := fun W h => (hcell W h).2.1
      have k2 := fun W h => (hcell W h).2.2.1
      have k3 := fun W h => (hcell W h).2.2.2.1
      have k4 := fun W h => (hcell W h).2.2.2.2.1
      have k5 := fun W h => (hcell W h).2.2.2.2.2.1
      have k6 := fun W h => (hcell W h).2.2.2.2.2.2.1
      have k7 := fun W h => (hcell W h).2.2.2.2.2.2.2.1
      have k8 := fun W h => (hcell W h).2.2.2.2.2.2.2.2.1
      have k9 := fun W h => (hcell W h).2.2.2.2.2.2.2.2.2.1
      have k10 := fun W h => (hcell W h).2.2.2.2.2.2.2.2.2.2
      have HCELL := Lib.hid hcell
      have hadd := fun W => string_add Tryd.prog S (putU q) (by omega) W
      have HQQ := Lib.hid hqq
      have HX := Lib.hid hx10
      clear hcell hS hsn hx hqq hjl
      go_wp2_with fail
      go_region_held (fun W => Mods Nil wr W) (first | exact (Mods.refl Nil wr).drew | assumption) (first
        | (go_at_call 37; refine (HNU.out _).mono ?_; rintro e w4 ⟨rfl, m4⟩; have hq4 : Mods Nil wr w4 := Mods.trans (by first | exact (Mods.refl Nil wr).drew | assumption) m4; clear m4)
        | (go_at_call 21; refine (ruint_any q hq64 _).mono ?_; rintro e w5 ⟨rfl, m5⟩; have hq5 : Mods Nil wr w5 := Mods.trans (by first | assumption) m5; clear m5))
      all_goals
        have d9 := k9 _ hq5
        have d10 := k10 _ hq5
        clear k0 k1 k2 k3 k4 k5 k6 k7 k8 k9 k10
        by_cases h9 : x = 9
        · subst h9
          obtain rfl : q = m.body.length := HQQ.out.symm
          have hp : putF m 9 = putU m.body.length ++ m.body := rfl
          have HP := Lib.hid hp
          rw [hp] at hpl2
          have hno : ¬ 9223372036854775807 < S.length + (putU m.body.length).length + m.body.length := by simp only [List.length_append] at hpl2; omega
          have e9 : lt 9 = 120 := rfl
          rw [e9] at hidx
          have hu : ((120 : UInt8).toNat : Int) = 120 := rfl
          rw [hu] at hidx
          go_wp2_with fail
          rw [strOf_append]
          have h8v : (((120 : UInt8).toNat : Int) == 118) = false := by decide
          go_loopw [4, 6] (fun s k wq => s = .string (strOf (S ++ putU m.body.length ++ m.body)) ∧ k = .int .i64 0 ∧ wq = w5) (fun _ _ _ => 0)
          case atStart => exact ⟨rfl, rfl, rfl⟩
          case round =>
            obtain ⟨rfl, rfl, rfl⟩ := hrel
            by_cases hv : m.vec.length = 0
            · have hvd : decide (0 < m.vec.length) = false := by rw [decide_eq_false_iff_not]; omega
              go_wp2_with fail
              exact ⟨⟨j + 1, by omega, by go_num, by rw [HSN.out, HSS.out]; rw [HP.out, List.append_assoc], HMR.out.trans hq5⟩, by simp [intOf]; omega⟩
            · have hvd : decide (0 < m.vec.length) = true := by rw [decide_eq_true_eq]; omega
              have hvI : 0 < m.vec.length := by omega
              go_wp2_with fail
              exact ⟨⟨j + 1, by omega, by go_num, by rw [HSN.out, HSS.out]; rw [HP.out, List.append_assoc], HMR.out.trans hq5⟩, by simp [intOf]; omega⟩
        · have h9x := lt_x x HX.out h9
          by_cases h8 : x = 8
          · subst h8
            obtain rfl : q = m.vec.length := HQQ.out.symm
            have hp : putF m 8 = putU m.vec.length ++ putAll m.vec := rfl
            have HP := Lib.hid hp
            have e8 : lt 8 = 118 := rfl
            rw [e8] at hidx h9x
            have hu : ((118 : UInt8).toNat : Int) = 118 := rfl
            rw [hu] at hidx h9x
            clear e8 hu
            have hv256 : m.vec.length ≤ 256 := HG.out.le 8 (by omega)
            have hal : Hid (∀ k, (putAll (m.vec.take k)).length ≤ 9 * 256) := fun k => by
              have h1 := putAll_length (m.vec.take k) (fun x hx => HO.out.vec x (List.mem_of_mem_take hx))
              simp only [List.length_take] at h1
              omega
            clear d9 d10
            go_wp2_with fail
            go_loopw [4, 6] (fun s k wq => ∃ i : Nat, i ≤ m.vec.length ∧ k = .int .i64 i ∧ s = .string (strOf (S ++ putU m.vec.length ++ putAll (m.vec.take i))) ∧ Mods Nil wr wq) (fun _ k _ => m.vec.length - (intOf k).toNat)
            case atStart => exact ⟨0, by omega, rfl, by simp [putAll], hq5⟩
            case round =>
              obtain ⟨i, hi, rfl, rfl, hmq⟩ := hrel
              have d9 := (HCELL.out _ hmq).2.2.2.2.2.2.2.2.2.1
              by_cases hil : i < m.vec.length
              · have hilI : (i : Int) < (m.vec.length : Int) := by omega
                obtain ⟨bb, off, hA, hbb, hc⟩ := (((HS.out.mods M2.out (fun _ _ h => h)).mods HMR.out (fun _ _ h => h)).mods hmq (fun _ _ h => h)).at_ (by rw [nums_length']; omega)
                have hck := hc i _ (nums_get' m.vec i hil)
                have hx64 := HO.out.vec _ (List.getElem_mem hil)
                have hsnp := putAll_snoc m.vec i hil
                have hli := hal.out i
                generalize m.vec[i] = y at hck hx64 hsnp
                have huy := putU_length y hx64
                have HSNP := Lib.hid hsnp
                have hTl : (S ++ putU m.vec.length ++ putAll (m.vec.take i)).length ≤ 100000 := by simp only [List.length_append]; omega
                obtain ⟨T, hT⟩ : ∃ T, S ++ putU m.vec.length ++ putAll (m.vec.take i) = T := ⟨_, rfl⟩
                rw [hT] at hTl ⊢
                have HTT := Lib.hid hT
                have hno : ¬ 9223372036854775807 < T.length + (putU y).length := by omega
                have HMQ := Lib.hid hmq
                rw [hA] at d9
                have hnc : m.vec.length ≤ c := by have := HS.out.le; rw [nums_length'] at this; exact this
                have hcm := HS.out.max
                unfold maxLen at hcm
                clear hc hsnp hT hmq hli hA
                go_wp2_with (go_at_call 21; refine (ruint_any y hx64 _).mono ?_; rintro e w6 ⟨rfl, m6⟩; have M6 := Lib.hid (HMQ.out.trans m6); clear m6)
                refine ⟨⟨i + 1, by omega, by go_num, ?_, M6.out⟩, by simp [intOf]; omega⟩
                rw [strOf_append, HSNP.out, ← HTT.out]
                simp only [List.append_assoc]
              · obtain rfl : i = m.vec.length := by omega
                have hild : ¬ (m.vec.length : Int) < (m.vec.length : Int) := by omega
                go_wp2_with fail
                exact ⟨⟨j + 1, by omega, by go_num, by rw [HSN.out, HSS.out, HP.out, List.take_length]; simp only [List.append_assoc], HMR.out.trans hmq⟩, by simp [intOf]; omega⟩
          · have h8v := lt_v x HX.out h8
            have hp : putF m x = putU q := by unfold putF; rw [if_neg h9, if_neg h8, List.append_nil, HQQ.out]
            have HP := Lib.hid hp
            go_wp2_with fail
            go_loopw [4, 6] (fun s k wq => s = .string (strOf (S ++ putU q)) ∧ k = .int .i64 0 ∧ wq = w5) (fun _ _ _ => 0)
            case atStart => exact ⟨rfl, rfl, rfl⟩
            case round =>
              obtain ⟨rfl, rfl, rfl⟩ := hrel
              by_cases hv : m.vec.length = 0
              · have hvd : decide (0 < m.vec.length) = false := by rw [decide_eq_false_iff_not]; omega
                go_wp2_with fail
                exact ⟨⟨j + 1, by omega, by go_num, by rw [HSN.out, HSS.out]; rw [HP.out], HMR.out.trans hq5⟩, by simp [intOf]; omega⟩
              · have hvd : decide (0 < m.vec.length) = true := by rw [decide_eq_true_eq]; omega
                have hvI : 0 < m.vec.length := by omega
                go_wp2_with fail
                exact ⟨⟨j + 1, by omega, by go_num, by rw [HSN.out, HSS.out]; rw [HP.out], HMR.out.trans hq5⟩, by simp [intOf]; omega⟩
    · obtain rfl : j = n := by omega
      have HF : Hid (putFs m ((fl m.kind).take j) = bodyOf m) := by show _ = _; rw [List.take_of_length_le (by have := HN.out; omega)]; rfl
      rw [HF.out]
      go_wp2_with fail
      go_ret
      exact ⟨rfl, M2.out.trans HMR.out⟩
end Go.Proofs.YtlheaicojmjdpaaDoor
end
