/- Package nums: the reader's small calls. -/
import Derived.Test.YtncmmiecfkfcgaaProg
import Derived.Test.YtncmmiecfkfcgaaGen
import Derived.Outline
import Derived.WalkLawsBesides
namespace Go.Proofs.Ytncmmiecfkfcgaa
open Go.RowKit

/-- A reader in block g, its bytes in block k: what is left, and the first error. -/
def IsReader (w : World) (g : Nat) (k : Option Nat) (err : Int) (xs : List UInt8) : Prop :=
  k ≠ some g ∧ ∃ A c, Blk w g 88 #[.slice A xs.length c, .int .i64 err] ∧ Sl w A c (bts xs) ∧ ∀ a, A = some a → k = some a.block

theorem IsReader.mods {S : Nat → Prop} {w w' : World} {g : Nat} {k : Option Nat} {err : Int} {xs : List UInt8} (h : IsReader w g k err xs) (hm : Mods S w w') (hg : ¬ S g) (hk : ∀ q, k = some q → ¬ S q) : IsReader w' g k err xs := by
  obtain ⟨hne, A, c, hb, hs, ha⟩ := h
  exact ⟨hne, A, c, hb.mods hm hg, hs.mods hm (fun a e => hk _ (ha a e)), ha⟩

theorem err_any {w : World} {g : Nat} {k : Option Nat} {err : Int} {xs : List UInt8} (h : IsReader w g k err xs) :
    Calls Try.prog 30 #[.pointer (some ⟨g, 0, none⟩)] w fun e w' => e = .returned (.int .i64 err) ∧ w = w' := by
  obtain ⟨hne, A, c, hb, hs, ha⟩ := h
  have hc := hb.cell 1
  have hf := hb.frozen 1
  clear hs hb
  simp at hc
  go_enter Try.func30, Try.ntmps30
  go_wp2
  go_ret
  exact ⟨rfl, rfl⟩

theorem err_nil (w : World) :
    Calls Try.prog 30 #[.pointer none] w fun e w' => e = .returned (.int .i64 1) ∧ w = w' := by
  go_enter Try.func30, Try.ntmps30
  go_wp2
  go_ret
  exact ⟨rfl, rfl⟩

theorem fail_any {w : World} {g : Nat} {k : Option Nat} {xs : List UInt8} (e0 : Int) (err : Int) (h : IsReader w g k err xs) :
    Calls Try.prog 41 #[.pointer (some ⟨g, 0, none⟩), .int .i64 e0] w fun e w' => e = .returned (.tuple #[]) ∧ IsReader w' g k e0 [] ∧ Mods (· = g) w w' := by
  obtain ⟨hne, A, c, hb, hs, ha⟩ := h
  have hc := hb.cell 0
  have hc1 := hb.cell 1
  have hf := hb.frozen 0
  have hf1 := hb.frozen 1
  have hb1 := (hb.set_ 1 (.int .i64 e0)).set_ 0 (.slice none 0 0)
  have hm : Mods (· = g) w ((w.setCell ⟨g, 1, none⟩ (.int .i64 e0)).setCell ⟨g, 0, none⟩ (.slice none 0 0)) :=
    ((Mods.refl (· = g) _).setCell (fun _ => rfl) _).setCell (fun _ => rfl) _
  clear hs hb
  simp at hc hc1
  simp at hb1
  go_enter Try.func41, Try.ntmps41
  go_wp2
  go_end0
  exact ⟨rfl, ⟨hne, none, 0, hb1, Sl.none_ _, fun a h => by cases h⟩, hm⟩

/-! numberError. -/
def numErr : List UInt8 → Int
  | [] => 10
  | c :: r => if 8 < c.toNat then 11 else if r.length < c.toNat then 10 else if 0 < c.toNat ∧ r.head? = some 0 then 11 else 0

theorem numErr_nil : numErr [] = 10 := rfl
theorem numErr_big {c : UInt8} {r : List UInt8} (h : 8 < c.toNat) : numErr (c :: r) = 11 := by simp only [numErr]; rw [if_pos h]
theorem numErr_short {c : UInt8} {r : List UInt8} (h : ¬ 8 < c.toNat) (h2 : r.length < c.toNat) : numErr (c :: r) = 10 := by simp only [numErr]; rw [if_neg h, if_pos h2]
theorem numErr_zero {c : UInt8} {r : List UInt8} (h2 : c.toNat = 0) : numErr (c :: r) = 0 := by simp only [numErr]; rw [if_neg (by omega), if_neg (by omega), if_neg (by omega)]
theorem numErr_front {c d : UInt8} {r : List UInt8} (h : ¬ 8 < c.toNat) (h2 : ¬ (d :: r).length < c.toNat) (h3 : 0 < c.toNat) (h4 : d.toNat = 0) : numErr (c :: d :: r) = 11 := by
  simp only [numErr]; rw [if_neg h, if_neg h2, if_pos ⟨h3, by simp; exact UInt8.toNat_inj.1 (by simpa using h4)⟩]
theorem numErr_ok {c d : UInt8} {r : List UInt8} (h : ¬ 8 < c.toNat) (h2 : ¬ (d :: r).length < c.toNat) (h4 : d.toNat ≠ 0) : numErr (c :: d :: r) = 0 := by
  simp only [numErr]; rw [if_neg h, if_neg h2, if_neg (by simp; intro _ e; subst e; simp at h4)]

theorem numberError_any {w : World} {A : Option Addr} {c : Nat} {n : Nat} {xs : List UInt8} (hn : xs.length = n) (h : Sl w A c (bts xs)) :
    Calls Try.prog 40 #[.slice A n c] w fun e w' => e = .returned (.int .i64 (numErr xs)) ∧ w = w' := by
  have hle := h.le
  have hmx := h.max
  unfold maxLen at hmx
  simp at hle
  rcases xs with _ | ⟨x, r⟩
  · subst hn
    rw [numErr_nil]
    go_enter Try.func40, Try.ntmps40
    go_wp2
    go_ret
    exact ⟨rfl, rfl⟩
  · obtain ⟨b, off, rfl, _, hcell⟩ := h.at_ (by simp)
    have h0 : w.cell? ⟨b, off, none⟩ = some (.int .u8 (x.toNat : Int)) := hcell 0 _ (by simp [bts])
    simp at hn hle
    have hz : ((n : Int) == 0) = false := by rw [beq_eq_false_iff_ne]; omega
    have hpos : (0 : Int) < (n : Int) := by omega
    have hpos' : 0 < n := by omega
    have hn2 : (n : Int) ≤ 9223372036854775807 := by omega
    have hxb : (x.toNat : Int) ≤ 255 := by have := x.toNat_lt; omega
    by_cases h8 : 8 < x.toNat
    · rw [numErr_big h8]
      have h8' : (8 : Int) < (x.toNat : Int) := by omega
      clear hcell h
      go_enter Try.func40, Try.ntmps40
      go_wp2
      go_ret
      exact ⟨rfl, rfl⟩
    · have h8' : ¬ (8 : Int) < (x.toNat : Int) := by omega
      by_cases hs : r.length < x.toNat
      · rw [numErr_short h8 hs]
        have hs' : (n : Int) - 1 < (x.toNat : Int) := by omega
        clear hcell h
        go_enter Try.func40, Try.ntmps40
        go_wp2
        go_ret
        exact ⟨rfl, rfl⟩
      · have hs' : ¬ (n : Int) - 1 < (x.toNat : Int) := by omega
        by_cases h1 : x.toNat = 0
        · rw [numErr_zero h1]
          have hx0 : ¬ (0 : Int) < (x.toNat : Int) := by omega
          have hx0' : decide ((0 : Int) < (x.toNat : Int)) = false := by simpa using hx0
          clear hcell h h1
          go_enter Try.func40, Try.ntmps40
          go_wp2
          go_ret
          exact ⟨rfl, rfl⟩
        · have hx0 : (0 : Int) < (x.toNat : Int) := by omega
          have hx0' : decide ((0 : Int) < (x.toNat : Int)) = true := by simpa using hx0
          rcases r with _ | ⟨d, r⟩
          · simp at hs; omega
          · have h1c : w.cell? ⟨b, off + 1, none⟩ = some (.int .u8 (d.toNat : Int)) := hcell 1 _ (by simp [bts])
            simp at hn
            have hn3 : (1 : Int) < (n : Int) := by omega
            have hn3' : 1 < n := by omega
            by_cases hd : d.toNat = 0
            · rw [numErr_front h8 hs (by omega) hd]
              clear hcell h h1
              rw [hd] at h1c
              clear hd hs
              go_enter Try.func40, Try.ntmps40
              go_wp2
              go_ret
              exact ⟨rfl, rfl⟩
            · rw [numErr_ok h8 hs hd]
              clear hcell h h1
              generalize d.toNat = y at h1c hd
              have hd' : ((y : Int) == 0) = false := by rw [beq_eq_false_iff_ne]; omega
              go_enter Try.func40, Try.ntmps40
              go_wp2
              go_ret
              exact ⟨rfl, rfl⟩
end Go.Proofs.Ytncmmiecfkfcgaa
