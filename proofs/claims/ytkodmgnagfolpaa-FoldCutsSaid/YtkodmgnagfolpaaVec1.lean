/- Package vec: a number at a place; what is done at each place, whatever is done. -/
import Derived.Test.YtkodmgnagfolpaaVec0
import Derived.Lib.Hide
import Derived.Deep.QuietTactic
import Derived.BigQuiet
namespace Go.Proofs.Ytkodmgnagfolpaa
set_option maxRecDepth 100000
open Go.RowKit
set_option linter.unusedVariables false
set_option linter.unusedSimpArgs false

/-- A row's number at any place. -/
def atI (xs : List Nat) (i : Int) : Nat := if i < 0 then 0 else vat xs i.toNat
theorem atI_nat (xs : List Nat) (i : Nat) : atI xs (i : Int) = vat xs i := by
  unfold atI
  rw [if_neg (by omega)]
  simp
set_option maxHeartbeats 800000 in
theorem vat_any (w : World) {A : Option Addr} {c n : Nat} {xs : List Nat} (hn : xs.length = n) (hs : Sl w A c (nums xs)) (i : Int) :
    Calls Try.prog 25 #[.slice A n c, .int .i64 i] w fun e w' => e = .returned (.int .u64 (atI xs i : Int)) ∧ w = w' := by
  by_cases h0 : i < 0
  · rw [show atI xs i = 0 from if_pos h0]
    have h0I : decide (i < 0) = true := by simpa using h0
    clear hs hn h0
    go_enter Try.func25, Try.ntmps25
    go_wp2_with fail
    go_ret
    exact ⟨rfl, rfl⟩
  · obtain ⟨j, rfl⟩ : ∃ j : Nat, i = (j : Int) := ⟨i.toNat, by omega⟩
    rw [atI_nat]
    have h0I : decide ((j : Int) < 0) = false := by simp
    by_cases hj : n ≤ j
    · rw [vat_ge (by omega)]
      have hjI : (n : Int) ≤ (j : Int) := by omega
      clear hs hn h0
      go_enter Try.func25, Try.ntmps25
      go_wp2_with fail
      go_ret
      exact ⟨rfl, rfl⟩
    · obtain ⟨b, off, rfl, hb, hc⟩ := sl_num hs (j := j) (by omega)
      have hjI : decide ((n : Int) ≤ (j : Int)) = false := by simp; omega
      have hjJ : (j : Int) < (n : Int) := by omega
      have hle := hs.le
      obtain ⟨y, hy⟩ : ∃ y, vat xs j = y := ⟨_, rfl⟩
      rw [hy] at hc ⊢
      clear hs hn h0 hy hle
      go_enter Try.func25, Try.ntmps25
      go_wp2_with fail
      go_ret
      exact ⟨rfl, rfl⟩
theorem vat_nat (w : World) {A : Option Addr} {c n : Nat} {xs : List Nat} (hn : xs.length = n) (hs : Sl w A c (nums xs)) (i : Nat) :
    Calls Try.prog 25 #[.slice A n c, .int .i64 (i : Int)] w fun e w' => e = .returned (.int .u64 (vat xs i : Int)) ∧ w = w' := by
  have := vat_any w hn hs (i : Int)
  rwa [atI_nat] at this

theorem snoc_yes {yes : Nat → Bool} {j : Nat} (h : ∀ i, i < j → yes i = true) (hj : yes j = true) : ∀ i, i < j + 1 → yes i = true := fun i hi => by
  by_cases e : i = j
  · rw [e]; exact hj
  · exact h i (by omega)
/-- A function with a body is entered. -/
theorem enters {f : FuncId} {fn : Func} {c : Code} (hf : Try.prog.funcs[f]? = some fn) (hname : (fn.name == "runtime.NumGoroutine") = false) (hb : fn.body = some c) (args : Array Value) (W : World) :
    (callFunc f args).run Try.prog W = .ok (.enter f args) W := by
  have h1 : fn.name ≠ "runtime.NumGoroutine" := by simpa using hname
  simp [callFunc, hf, h1, hb]
/-- What is done at each place. -/
theorem each_gen (w : World) {f : FuncId} (hf : ∀ args (W : World), (callFunc f args).run Try.prog W = .ok (.enter f args) W) {u v : Value} {n : Nat} (hn : n ≤ 140737488355328) (J : Nat → World → Prop) (h0 : J 0 w)
    (hJ : ∀ (j : Nat) W, j < n → J j W → Calls Try.prog f #[.int .i64 (j : Int), u, v] W fun e W' => e = .returned (.tuple #[]) ∧ J (j + 1) W') :
    Calls Try.prog 71 #[.int .i64 (n : Int), .func (.func f) #[] #[u, v]] w fun e W => e = .returned (.tuple #[]) ∧ J n W := by
  have H0 := Lib.hid h0
  have HJ := Lib.hid hJ
  clear h0 hJ
  go_enter Try.func71, Try.ntmps71
  go_wp2
  go_loopw [6] (fun x wr => ∃ j : Nat, j ≤ n ∧ x = .int .i64 (j : Int) ∧ J j wr) (fun x _ => n - (intOf x).toNat)
  case atStart => exact ⟨0, Nat.zero_le _, rfl, H0.out⟩
  case round =>
    obtain ⟨j, hj, rfl, hr⟩ := hrel
    have HR := Lib.hid hr
    clear hr
    by_cases hlt : j < n
    · have hjI : (j : Int) < (n : Int) := by omega
      go_wp2_with (refine (HJ.out j _ hlt HR.out).mono ?_; rintro e w1 ⟨rfl, h1⟩; have H1 := Lib.hid h1; clear h1)
      exact ⟨⟨j + 1, by omega, by go_num, H1.out⟩, by simp [intOf]; omega⟩
    · obtain rfl : j = n := by omega
      go_wp2
      exact bodyPost_end (results_none rfl _ _ _) rfl ⟨rfl, HR.out⟩
/-- Whether something holds at each place. -/
theorem all_gen (w : World) {f : FuncId} (hf : ∀ args (W : World), (callFunc f args).run Try.prog W = .ok (.enter f args) W) {u v : Value} {n : Nat} (hn : n ≤ 140737488355328) (J : Nat → World → Prop) (F : World → Prop) (yes : Nat → Bool) (h0 : J 0 w)
    (hJ : ∀ (j : Nat) W, j < n → J j W → Calls Try.prog f #[.int .i64 (j : Int), u, v] W fun e W' => e = .returned (.bool (yes j)) ∧ (yes j = true → J (j + 1) W') ∧ (yes j = false → F W')) :
    Calls Try.prog 57 #[.int .i64 (n : Int), .func (.func f) #[] #[u, v]] w fun e W => (e = .returned (.bool true) ∧ J n W ∧ ∀ j, j < n → yes j = true) ∨ (e = .returned (.bool false) ∧ F W ∧ ∃ j, j < n ∧ yes j = false ∧ ∀ i, i < j → yes i = true) := by
  have H0 := Lib.hid h0
  have HJ := Lib.hid hJ
  clear h0 hJ
  go_enter Try.func57, Try.ntmps57
  go_wp2
  go_loopw [5, 7] (fun _ x wr => ∃ j : Nat, j ≤ n ∧ x = .int .i64 (j : Int) ∧ J j wr ∧ ∀ i, i < j → yes i = true) (fun _ x _ => n - (intOf x).toNat)
  case atStart => exact ⟨0, Nat.zero_le _, rfl, H0.out, fun i h => by omega⟩
  case round =>
    obtain ⟨j, hj, rfl, hr, hy⟩ := hrel
    have HR := Lib.hid hr
    have HY := Lib.hid hy
    clear hr hy
    by_cases hlt : j < n
    · have hjI : (j : Int) < (n : Int) := by omega
      cases hyj : yes j with
      | true =>
        have HC := Lib.hid (HJ.out j _ hlt HR.out)
        rw [hyj] at HC
        have HYJ := Lib.hid hyj
        clear hyj
        go_wp2_with (refine (HC.out).mono ?_; rintro e w1 ⟨rfl, h1, -⟩; have H1 := Lib.hid (h1 rfl); clear h1)
        exact ⟨⟨j + 1, by omega, by go_num, H1.out, snoc_yes HY.out HYJ.out⟩, by simp [intOf]; omega⟩
      | false =>
        have HC := Lib.hid (HJ.out j _ hlt HR.out)
        rw [hyj] at HC
        have HYJ := Lib.hid hyj
        clear hyj
        go_wp2_with (refine (HC.out).mono ?_; rintro e w1 ⟨rfl, -, h1⟩; have H1 := Lib.hid (h1 rfl); clear h1)
        go_ret
        exact .inr ⟨rfl, H1.out, j, hlt, HYJ.out, HY.out⟩
    · obtain rfl : j = n := by omega
      go_wp2
      go_ret
      exact .inl ⟨rfl, HR.out, HY.out⟩
end Go.Proofs.Ytkodmgnagfolpaa
