/- The reference of layer 8: Set, in whatever case. -/
import Derived.Test.YtdllgmhipenidaaRef08e
namespace Go.Proofs.Ytdllgmhipenidaa
set_option maxRecDepth 100000
open Go.RowKit
set_option linter.unusedVariables false

section
variable {A B : Option Addr} {c k : Nat} {d : PD} {p : PCell} {s : List UInt8} {q : Nat}
theorem r8set_any (w : World) (h : RdAt w A c B k d) (hok : d.Ok) (hlim : d.W.length ≤ 900) (hlin : d.L.length ≤ 900) (h0 : -1 ≤ d.left) (h1 : d.left ≤ 9223372036854775807) (hp : p.Ok) (hz : p.turn = 0 → p.spare = 0) (hs : s.length = q) :
    Calls Try.prog 37 #[rdW A c B k d, .agg (rcC p), .string (strOf s)] w (RTold8 w (p.set d s).1 (p.set d s).2.1 (p.set d s).2.2) := by
  have hg := hp.great
  by_cases h43 : 43 < q
  · have e : p.set d s = (d, p, 13) := by unfold PCell.set; rw [if_pos (by omega)]
    rw [e]
    exact r8set_early w h hs 13 (.inl ⟨h43, rfl⟩)
  · by_cases he : p.err = 0
    · by_cases hw : p.great + 1 = 18446744073709551616
      · have e : p.set d s = (d, p, 37) := by unfold PCell.set; rw [if_neg (by omega), if_neg (by simp [he]), if_pos hw]
        rw [e]
        exact r8set_early w h hs 37 (.inr (.inr ⟨by omega, he, by omega, rfl⟩))
      · exact r8set_go w h hok hlim hlin h0 h1 hp hz hs (by omega) he (by omega)
    · have e : p.set d s = (d, p, p.err) := by unfold PCell.set; rw [if_neg (by omega), if_pos he]
      rw [e]
      exact r8set_early w h hs p.err (.inr (.inl ⟨by omega, he, rfl⟩))
theorem set_zero (hz : p.turn = 0 → p.spare = 0) (hg : p.great < 18446744073709551616) : (p.set d s).2.1.turn = 0 → (p.set d s).2.1.spare = 0 := by
  unfold PCell.set
  split
  · exact hz
  · split
    · exact hz
    · split
      · exact hz
      · split
        · exact hz
        · intro h
          have := PCell.tell_turn (c := p) (by omega) s
          have h2 : (p.tell s).turn = 0 := h
          omega
theorem put_len (b : List UInt8) : (p.put d b).1.L.length = d.L.length ∧ (p.put d b).1.W.length ≤ d.W.length + 1 := by
  have h1 := write_len8 d ((p.at_ + p.spare : Nat) : Int) b
  unfold PCell.put
  split
  · exact h1
  · have h2 : ∀ e : PD, e.sync.1.L.length = e.L.length ∧ e.sync.1.W.length ≤ e.W.length := fun e => by
      have h := e.count_L
      unfold PD.sync
      split
      · exact ⟨rfl, Nat.le_refl _⟩
      · split
        · rw [h.1, h.2]; exact ⟨rfl, Nat.le_refl _⟩
        · exact ⟨by simp [layAll_length], by simp⟩
    have := h2 (d.write ((p.at_ + p.spare : Nat) : Int) b).1
    exact ⟨by omega, by omega⟩
theorem set_len : (p.set d s).1.L.length = d.L.length ∧ (p.set d s).1.W.length ≤ d.W.length + 1 := by
  have h := put_len (d := d) (p := p) (layC (p.great + 1) s)
  unfold PCell.set
  split
  · exact ⟨rfl, Nat.le_succ _⟩
  · split
    · exact ⟨rfl, Nat.le_succ _⟩
    · split
      · exact ⟨rfl, Nat.le_succ _⟩
      · split
        · exact h
        · exact h
theorem op_zero {at_ : Nat} {b0 b1 : List UInt8} : (((cellNew at_).take 0 b0).take 1 b1).turn = 0 → (((cellNew at_).take 0 b0).take 1 b1).spare = 0 := by
  have h0 : (cellNew at_).turn = 0 := zeros_turn
  have hst : ∀ (c : PCell) (j : Nat) (b : List UInt8), (c.turn = 0 → c.spare = 0) → ((c.take j b).turn = 0 → (c.take j b).spare = 0) := fun c j b hc => by
    unfold PCell.take
    split
    · rename_i h
      intro h2
      have : turnN b 0 = 0 := h2
      omega
    · exact hc
  exact hst _ 1 b1 (hst _ 0 b0 (fun _ => rfl))
end
end Go.Proofs.Ytdllgmhipenidaa
