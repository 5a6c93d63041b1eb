/- What the statements of layer 13 begin with: a promise, a vote, and an old one. -/
import Derived.Test.YthkejoabppocoaaAccI
import Derived.Test.YthkejoabppocoaaVotes13
namespace Go.Proofs.Ythkejoabppocoaa
set_option maxRecDepth 1000000
open Go.RowKit
set_option linter.unusedVariables false
set_option linter.unusedSimpArgs false

def awA : PAc := { prom := 5, low := 0, L := [⟨2, 5, [120]⟩] }
set_option maxHeartbeats 6400000 in
theorem awake13_any (w : World) : Calls Try.prog 9 #[] w fun e w' => e = .returned (.bool true) ∧ Mods Nil w w' := by
  have HP1 : Hid (∀ (W : World) b, AccS w W (fun _ => False) b {} 0 → Calls Try.prog 11 #[.pointer (some ⟨b, 0, none⟩), .int .u64 5, .int .u64 0] W fun e W' => ∃ A c n, e = .returned (.tuple #[.slice A n c, .int .i64 0]) ∧ AccS w W' (fun _ => False) b { prom := 5 } 0) := Lib.hid (fun W b h => (h.prep (bal := 5) (f := 0) (by omega) (by omega) (by omega)).mono fun e W' ⟨A, c, n, L, h1, h2, h3, h4, h5⟩ => ⟨A, c, n, h1, h4.more (Mods.refl _ _) (fun _ h => h.elim)⟩)
  have HA1 : Hid (∀ (W : World) b, AccS w W (fun _ => False) b { prom := 5 } 0 → Calls Try.prog 15 #[.pointer (some ⟨b, 0, none⟩), .agg #[.int .u64 2, .int .u64 4, .slice none 0 0]] W fun e W' => e = .returned (.int .i64 32) ∧ AccS w W' (fun _ => False) b { prom := 5 } 1) := Lib.hid (fun W b h => (h.acc (v := ⟨2, 4, []⟩) (n := 0) (c := 0) (A := none) (by omega) (by simp) (by simp) rfl (by omega) (Sl.none_ _)).mono fun e W' ⟨h1, h2, h3⟩ => ⟨h1, h2⟩)
  have HA2 : Hid (∀ (W : World) b g, AccS w W (fun _ => False) b { prom := 5 } 1 → Sl W (some ⟨g, 0, none⟩) 1 (bts [120]) → Calls Try.prog 15 #[.pointer (some ⟨b, 0, none⟩), .agg #[.int .u64 2, .int .u64 5, .slice (some ⟨g, 0, none⟩) 1 1]] W fun e W' => e = .returned (.int .i64 0) ∧ AccS w W' (fun _ => False) b awA 2) := Lib.hid (fun W b g h hs => (h.acc (v := ⟨2, 5, [120]⟩) (n := 1) (c := 1) (by omega) (by simp) (by simp) rfl (by omega) hs).mono fun e W' ⟨h1, h2, h3⟩ => ⟨h1, h2⟩)
  have HP2 : Hid (∀ (W : World) b, AccS w W (fun _ => False) b awA 2 → Calls Try.prog 11 #[.pointer (some ⟨b, 0, none⟩), .int .u64 6, .int .u64 0] W fun e W' => ∃ bb oo c B cb, e = .returned (.tuple #[.slice (some ⟨bb, oo, none⟩) 1 c, .int .i64 0]) ∧ W'.cell? ⟨bb, oo + 2, none⟩ = some (.slice B 1 cb) ∧ Sl W' B cb (bts [120]) ∧ AccS w W' (fun _ => False) b { awA with prom := 6 } 2) := Lib.hid (fun W b h => (h.prep (bal := 6) (f := 0) (by omega) (by omega) (by omega)).mono fun e W' ⟨A, c, n, L, h1, h2, h3, h4, h5⟩ => by
    have hL : L.map VtP.plain = [⟨2, 5, [120]⟩] := h2
    have hl : L.length = 1 := by have := congrArg List.length hL; simpa using this
    obtain ⟨q, rfl⟩ : ∃ q, L = [q] := List.length_eq_one_iff.1 hl
    obtain rfl : n = 1 := by rw [← h3.len]; exact hl
    obtain ⟨bb, oo, rfl, _, _, _, hc⟩ := h3.cells (j := 0) (q := q) rfl
    have hq : q.val = [120] := by
      have h9 : q.plain = ⟨2, 5, [120]⟩ := by simpa using hL
      exact congrArg PVt.val h9
    have hby := (h3.bys q (by simp)).1
    rw [hq] at hc hby
    exact ⟨bb, oo, c, q.A, q.c, h1, by simpa using hc, hby, h4.more (Mods.refl _ _) (fun _ h => h.elim)⟩)
  have hcv := fun (w : World) (C : Array Value) (n c : Nat) => Lib.run_convert_bytes_const (P := Try.prog) w 30 5 C n c Try.underlying30 Try.underlying5
  have hst := strOf_toList [120]
  go_enter Try.func9, Try.ntmps9
  go_wp2_with (first
    | (go_at_call 20; refine (S5.out.promised).mono ?_; rintro e w6 ⟨rfl, m6⟩; have M6 := Lib.hid (S5.out.m.trans m6); clear m6)
    | (go_at_call 11; have hx := S4.out; clear hx; refine (HP2.out _ _ S4.out).mono ?_; rintro e w5 ⟨bb, oo, c5, B5, cb5, rfl, hc5, hs5, s5⟩; have S5 := Lib.hid s5; have hcv := conv13 (n := 1) rfl hs5; clear s5 hs5)
    | (go_at_call 11; refine (HP1.out _ _ S1.out).mono ?_; rintro e w2 ⟨A2, c2, n2, rfl, s2⟩; have S2 := Lib.hid s2; clear s2)
    | (go_at_call 15; have hx := S3.out; clear hx; go_loud (refine (HA2.out _ _ _ (S3.out.nil ((Mods.refl Nil w3).alloc _)) (build_at (n := 1) rfl rfl rfl (by simp [maxLen]))).mono ?_); rintro e w4 ⟨rfl, s4⟩; have S4 := Lib.hid s4; clear s4)
    | (go_at_call 15; refine (HA1.out _ _ S2.out).mono ?_; rintro e w3 ⟨rfl, s3⟩; have S3 := Lib.hid s3; clear s3)
    | (go_at_call 10; refine (acc_new _).mono ?_; rintro e w1 ⟨b, rfl, s1⟩; have S1 := Lib.hid s1; clear s1))
  go_ret
  exact ⟨rfl, M6.out⟩
end Go.Proofs.Ythkejoabppocoaa
