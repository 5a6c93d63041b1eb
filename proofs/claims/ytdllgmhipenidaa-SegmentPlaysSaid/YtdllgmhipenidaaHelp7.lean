/- Small helps of the walks of layer 7. -/
import Derived.Test.YtdllgmhipenidaaAwake07
namespace Go.Proofs.Ytdllgmhipenidaa
set_option maxRecDepth 100000
open Go.RowKit
set_option linter.unusedVariables false

theorem u8_nat7 {z : Int} (h : (Lit.int .u8 z).wf = true) : ∃ p : Nat, z = (p : Int) ∧ p < 256 := by
  simp only [Lit.wf, IntKind.min, IntKind.max] at h
  simp [IntKind.signed, IntKind.bits] at h
  exact ⟨z.toNat, by omega, by omega⟩
theorem i64_lim {z : Int} (h : (Lit.int .i64 z).wf = true) : -9223372036854775808 ≤ z ∧ z ≤ 9223372036854775807 := by
  simp only [Lit.wf, IntKind.min, IntKind.max] at h
  simp [IntKind.signed, IntKind.bits] at h
  omega
theorem new7 (N : Nat) (h1 : 1 ≤ N) (h2 : N ≤ 65536) (W : World) (base : Nat) (hb : base ≤ W.heap.size) : Calls Try.prog 13 #[.int .i64 (N : Int)] W fun e w' => ∃ db, e = .returned (.tuple #[.pointer (some ⟨db, 0, none⟩), .int .i64 0]) ∧ DiskAt w' base db (runD [] (List.replicate N zeros64) [] [] [] 1) ∧ Mods Nil W w' := by
  have := lnew W (base := base) (n := N) (k := (N : Int)) hb rfl h1 h2
  have e : live (List.replicate N zeros64) [] = runD [] (List.replicate N zeros64) [] [] [] 1 := by
    unfold live runD
    simp [blocksOf, rowW]
  rw [e] at this
  exact this
theorem open7 (N : Nat) (h1 : 1 ≤ N) (h2 : N ≤ 65536) (W : World) (base db : Nat) (h : DiskAt W base db (runD [] (List.replicate N zeros64) [] [] [] 1)) (hb : base ≤ W.heap.size) : Calls Try.prog 15 #[.pointer (some ⟨db, 0, none⟩), .int .i64 0, .int .i64 (N : Int)] W fun e w' => ∃ sb, e = .returned (.tuple #[.pointer (some ⟨sb, 0, none⟩), .int .i64 0]) ∧ At7 w' base sb db [] (List.replicate N zeros64) [] [] [] 1 N ∧ Mods Nil W w' :=
  a7open (a := 0) (k := (N : Int)) h hb (run_open0 0 N) (Run.new N) h1 (by simp; omega) (by rw [zeros_stamp]; omega) rfl rfl
section
variable {w : World} {base sb db mb : Nat} {L : List (List UInt8)} {old : Recs} {news : List (List UInt8)} {E n : Nat}
theorem a7trim (h : At7 w base sb db [] L [] old news E n) (z : Int) {t : Nat} (ht : (t : Int) = max 0 (min z (old.length : Int))) (hle : t ≤ old.length) :
    Calls Try.prog 22 #[.pointer (some ⟨sb, 0, none⟩), .int .i64 z] w fun e w' => e = .returned (.int .i64 (t : Int)) ∧ (∃ mb, SegIn w' base sb db mb ((runS 0 old news E n).at_ t)) ∧ DiskAt w' base db (runD [] L [] old news E) ∧ SM base w w' := by
  obtain ⟨mb, hs⟩ := h.at_.2
  have e : (runS 0 old news E n).trim z = (runS 0 old news E n).at_ t := by
    unfold PSeg.trim PSeg.at_ runS
    simp only [PSeg.mk.injEq, true_and]
    refine ⟨?_, trivial⟩
    omega
  have := strim_in hs h.at_.1 z
  rw [show ([] : List (List UInt8)).length = 0 from rfl, e] at this
  exact this.mono (fun e w' ⟨h1, h2, h3, h4⟩ => ⟨h1, ⟨mb, h2⟩, h3, h4⟩)
theorem a7trim2 {d : PD} {s : PSeg} {t : Nat} (h : SegIn w base sb db mb (s.at_ t)) (hd : DiskAt w base db d) (z : Int) (hz : z ≤ 0) (hx : s.at_ t = s.at_ t) :
    Calls Try.prog 22 #[.pointer (some ⟨sb, 0, none⟩), .int .i64 z] w fun e w' => e = .returned (.int .i64 (t : Int)) ∧ SegIn w' base sb db mb (s.at_ t) ∧ DiskAt w' base db d ∧ SM base w w' := by
  have e : (s.at_ t).trim z = s.at_ t := by
    unfold PSeg.trim PSeg.at_
    simp only [PSeg.mk.injEq, true_and]
    refine ⟨?_, trivial⟩
    omega
  have := strim_in h hd z
  rw [e] at this
  exact this
theorem a7gone {a t j : Nat} (h : SegIn w base sb db mb ((runS a old news E n).at_ t)) (hj : j < t) (hl : j < (old.map (·.1) ++ news).length) :
    Calls Try.prog 58 #[.pointer (some ⟨sb, 0, none⟩), .int .i64 (j : Int)] w fun e w' => ∃ A c m, e = .returned (.tuple #[.slice A m c, .int .i64 35]) ∧ Mods Nil w w' := by
  have e : ((runS a old news E n).at_ t).read (j : Int) = ([], 35) := by
    unfold PSeg.read PSeg.at_ runS
    dsimp only
    rw [if_neg (by omega), if_pos (by omega)]
  have := sread_in h (j : Int)
  unfold ReadTold at this
  rw [e] at this
  exact this.mono (fun e w' ⟨A, c, m, h1, h2, h3, h4⟩ => ⟨A, c, m, h1, h4⟩)
theorem a7there {a t j : Nat} (h : SegIn w base sb db mb ((runS a old news E n).at_ t)) (hj : t ≤ j) (hl : j < (old.map (·.1) ++ news).length) {b : List UInt8} (hb : (old.map (·.1) ++ news).getD j [] = b) :
    Calls Try.prog 58 #[.pointer (some ⟨sb, 0, none⟩), .int .i64 (j : Int)] w fun e w' => ∃ A c m, e = .returned (.tuple #[.slice A m c, .int .i64 0]) ∧ b.length = m ∧ Sl w' A c (bts b) ∧ Mods Nil w w' := by
  have e : ((runS a old news E n).at_ t).read (j : Int) = (b, 0) := by
    unfold PSeg.read PSeg.at_ runS
    dsimp only
    rw [if_neg (by omega), if_neg (by omega), Int.toNat_natCast, hb]
  have := sread_in h (j : Int)
  unfold ReadTold at this
  rw [e] at this
  exact this
end
end Go.Proofs.Ytdllgmhipenidaa
