/- Package disk: Write. -/
import Derived.Test.YtgebcpfgihcoiaaDisk5
namespace Go.Proofs.Ytgebcpfgihcoiaa
set_option maxRecDepth 100000
open Go.RowKit
set_option linter.unusedVariables false

set_option maxHeartbeats 3200000 in
theorem dwrite_any {w : World} {base db : Nat} {d : PD} (h : DiskAt w base db d) (hW : d.W.length ≤ 1000) (i : Int) {A : Option Addr} {c m : Nat} {b : List UInt8} (hs : Bs base w A c b) (hm : b.length = m) :
    Calls Try.prog 24 #[.pointer (some ⟨db, 0, none⟩), .int .i64 i, .slice A m c] w fun e w' => e = .returned (.int .i64 (d.write i b).2) ∧ DiskAt w' base db (d.write i b).1 ∧ DM base w w' := by
  have HR := Lib.hid (dreach_any h i)
  by_cases ha : d.at_ i = 0
  · by_cases hb : m = 64
    · subst hb
      have HC := Lib.hid (dcount_any h)
      by_cases hc : d.count.2 = 0
      · obtain ⟨-, h0, h1⟩ := PD.at_zero ha
        obtain ⟨k, rfl⟩ : ∃ k : Nat, i = (k : Int) := ⟨i.toNat, by omega⟩
        have hk : k < d.L.length := by omega
        have e : d.write (k : Int) b = ({ d.count.1 with W := d.W ++ [(k, b)] }, 0) := by unfold PD.write; rw [if_neg (by simp [ha]), if_neg (by simp [hm]), if_neg (by simp [hc])]; rfl
        rw [e]
        rw [ha] at HR
        rw [hc] at HC
        rw [← e]
        exact (dwrite_ok hW hk hs hm HC.out HR.out).mono (fun e w' h => by rw [‹d.write (k : Int) b = _›]; exact h)
      · have e : d.write i b = d.count := by unfold PD.write; rw [if_neg (by simp [ha]), if_neg (by simp [hm]), if_pos hc]
        have hc' : (d.count.2 != 0) = true := by simpa using hc
        rw [ha] at HR
        rw [e]
        generalize d.count.2 = x at *
        clear h hs ha hc e
        go_enter Try.func24, Try.ntmps24
        go_wp2_with (first
          | (go_at_call 51; refine HR.out.mono ?_; rintro e w1 ⟨rfl, rfl⟩)
          | (go_at_call 52; refine HC.out.mono ?_; rintro e w2 ⟨rfl, d2, m2⟩; have D2 := Lib.hid d2; have M2 := Lib.hid m2; clear d2 m2))
        go_ret
        exact ⟨rfl, D2.out, M2.out⟩
    · have e : d.write i b = (d, 1) := by unfold PD.write; rw [if_neg (by simp [ha]), if_pos (by omega)]
      rw [e]
      have hbI : decide ((m : Int) = 64) = false := by simp; omega
      rw [ha] at HR
      have H := Lib.hid h
      clear h hs ha e
      go_enter Try.func24, Try.ntmps24
      go_wp2_with (go_at_call 51; refine HR.out.mono ?_; rintro e w1 ⟨rfl, rfl⟩)
      go_ret
      exact ⟨rfl, H.out, DM.refl _ _⟩
  · have e : d.write i b = (d, d.at_ i) := by unfold PD.write; rw [if_pos ha]
    rw [e]
    have ha' : (d.at_ i != 0) = true := by simpa using ha
    have H := Lib.hid h
    generalize d.at_ i = x at *
    clear h hs e ha
    go_enter Try.func24, Try.ntmps24
    go_wp2_with (go_at_call 51; refine HR.out.mono ?_; rintro e w1 ⟨rfl, rfl⟩)
    go_ret
    exact ⟨rfl, H.out, DM.refl _ _⟩
end Go.Proofs.Ytgebcpfgihcoiaa
