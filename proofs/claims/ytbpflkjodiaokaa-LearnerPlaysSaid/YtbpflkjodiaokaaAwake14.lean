/- What the statements of layer 14 begin with: the document's example. -/
import Derived.Test.YtbpflkjodiaokaaLrnI
import Derived.Lib.SlBytesConst
import Derived.Deep.CutRange
namespace Go.Proofs.Ytbpflkjodiaokaa
set_option maxRecDepth 1000000
open Go.RowKit
set_option linter.unusedVariables false
set_option linter.unusedSimpArgs false

def awL : List KV := [(0, [97]), (4, []), (1, [99])]
theorem aw1 : learnL [] 0 [97] = [(0, [97])] := by simp [learnL, lookL_nil]
theorem aw2 : learnL [(0, [97])] 4 [] = [(0, [97]), (4, [])] := by simp [learnL, lookL_cons, lookL_nil]
theorem aw3 : learnL [(0, [97]), (4, [])] 1 [99] = awL := by simp [learnL, lookL_cons, lookL_nil, awL]
theorem aw4 : learnL awL 1 [100] = awL := by simp [learnL, lookL_cons, lookL_nil, awL]
theorem aw5 : learnL awL 0 [97] = awL := by simp [learnL, lookL_cons, lookL_nil, awL]
theorem ae1 : learnE [] 0 [97] = 0 := by simp [learnE, lookL_nil]
theorem ae2 : learnE [(0, [97])] 4 [] = 0 := by simp [learnE, lookL_cons, lookL_nil]
theorem ae3 : learnE [(0, [97]), (4, [])] 1 [99] = 0 := by simp [learnE, lookL_cons, lookL_nil]
theorem ae4 : learnE awL 1 [100] = 33 := by simp [learnE, lookL_cons, lookL_nil, awL]
theorem ae5 : learnE awL 0 [97] = 31 := by simp [learnE, lookL_cons, lookL_nil, awL]
theorem aw_look : lookL awL 4 = some [] := by simp [lookL_cons, lookL_nil, awL]
theorem keep14 {w w1 w2 : World} {b o : Nat} {u : Value} {S : Nat → Prop} (hb : b < w.heap.size) (m0 : Mods Nil w w1) (m : Mods S w1 w2) (hS : ¬ S b) (h : w.cell? ⟨b, o, none⟩ = some u) : w2.cell? ⟨b, o, none⟩ = some u :=
  (World.cell?_of_block (m.block b (Nat.lt_of_lt_of_le hb m0.size) hS)).trans ((World.cell?_of_block (m0.block b hb (fun h => h))).trans h)
theorem awL_next : nextP awL 2 := by
  refine ⟨fun m hm => ?_, rfl⟩
  match m, hm with
  | 0, _ => rfl
  | 1, _ => rfl
theorem aw_gaps : gapsL awL 9 = [2, 3] := by decide
theorem aw_from : (fromL awL 0 9).length = 2 := by decide
set_option maxHeartbeats 6400000 in
theorem awake14_any (w : World) : Calls Try.prog 7 #[] w fun e w' => e = .returned (.bool true) ∧ Mods Nil w w' := by
  have HL : Hid (∀ (W : World) (X : Nat → Prop) b L T s (v : List UInt8) n c A, LrS w W X b L T → T ≤ 10 → s < 10 → v.length = n → n ≤ 10 → Sl W A c (bts v) → ∀ (E : Nat) (L' : List KV), learnE L s v = E → learnL L s v = L' → Calls Try.prog 9 #[.pointer (some ⟨b, 0, none⟩), .int .u64 ((s : Nat) : Int), .slice A n c] W fun e W' => e = .returned (.int .i64 (E : Int)) ∧ LrS w W' X b L' (T + 1) ∧ Mods (LM w X) W W') :=
    Lib.hid (fun W X b L T s v n c A h hT hs hn hn2 hv E L' hE hL => by rw [← hE, ← hL]; exact h.learn (by omega) (by omega) hn (by omega) hv)
  have hcv := fun (w : World) (C : Array Value) (n c : Nat) => Lib.run_convert_bytes_const (P := Try.prog) w 28 5 C n c Try.underlying28 Try.underlying5
  go_enter Try.func7, Try.ntmps7
  go_wp2_with (first
    | (go_at_call 20; refine (S7.out.from_ (s := 0) (most := 9) (by omega) (by omega) (by omega) (by omega)).mono ?_; rintro e w9 ⟨A9, c9, n9, R9, rfl, f9, m9⟩; have M9 := Lib.hid m9; obtain rfl : n9 = 2 := (by rw [← f9.len]; have := congrArg List.length f9.val; rw [List.length_map] at this; rw [this]; exact aw_from); clear f9 m9)
    | (go_at_call 13; refine (S7.out.top_ (by omega)).mono ?_; rintro e w8 ⟨rfl, m8⟩; have S8 := Lib.hid (S7.out.nil m8); replace S7 := S8; have z51 := (World.cell?_of_block (m8.block b5 HB7.out (fun h => h))).trans z51; replace HB7 := Lib.hid (Nat.lt_of_lt_of_le HB7.out m8.size); clear m8)
    | (go_at_call 11; refine (S7.out.next (by omega)).mono ?_; rintro e w8 ⟨r8, rfl, n8, _, m8⟩; obtain rfl : r8 = 2 := nextP_one n8 awL_next; have S8 := Lib.hid (S7.out.nil m8); replace S7 := S8; have z51 := (World.cell?_of_block (m8.block b5 HB7.out (fun h => h))).trans z51; replace HB7 := Lib.hid (Nat.lt_of_lt_of_le HB7.out m8.size); clear m8 n8)
    | (go_at_call 9; have hx := S6.out; clear hx; go_loud (refine (HL.out _ _ _ _ _ 0 [97] 1 _ _ (S6.out.nil ((Mods.refl Nil w6).alloc _)) (by omega) (by omega) rfl (by omega) (build_at (n := 1) rfl rfl rfl (by simp [maxLen])) 31 awL ae5 aw5).mono ?_); rintro e w7 ⟨rfl, s7, m7⟩; go_loud (have S7 := Lib.hid s7; have z51 := keep14 HB6.out ((Mods.refl Nil w6).alloc (.cells #[.int .u8 97] 5 (1, 2))) m7 (fun h => h.2 rfl) z51); go_loud (have HB7 := Lib.hid (Nat.lt_of_lt_of_le HB6.out (Nat.le_trans ((Mods.refl Nil w6).alloc (.cells #[.int .u8 97] 5 (1, 2))).size m7.size)); clear S6); clear s7 m7)
    | (go_at_call 18; refine (S5.out.get (s := 4) (by omega) (by omega)).mono ?_; rintro e w6 ⟨A6, n6, c6, he6, h6, m6⟩; rw [aw_look] at he6; simp only [Option.isSome_some] at he6; subst he6; obtain ⟨rfl, _⟩ := h6 [] aw_look; have S6 := Lib.hid (S5.out.nil m6); have HB6 := Lib.hid (Nat.lt_of_lt_of_le HB5.out m6.size); have z51 := (World.cell?_of_block (m6.block b5 HB5.out (fun h => h))).trans z51; clear h6 m6)
    | (go_at_call 16; refine (S4.out.gaps (most := 9) (by omega) (by omega) (by omega)).mono ?_; rintro e w5 ⟨A5, c5, n5, rfl, l5, s5, f5, m5⟩; have l5' := l5; rw [show (9 : Int).toNat = 9 from rfl, aw_gaps] at l5'; obtain rfl : n5 = 2 := l5'.symm; have s5' := s5; rw [show (9 : Int).toNat = 9 from rfl, aw_gaps] at s5'; obtain ⟨b5, o5, rfl, _, z5⟩ := s5'.at_ (by simp [nums]); have z51 := z5 1 (.int .u64 3) rfl; have f5' := f5 (by rw [show (9 : Int).toNat = 9 from rfl, aw_gaps]; simp) _ rfl; have S5 := Lib.hid (S4.out.more m5 (Y := fun k => k = b5) (fun k hk => by subst hk; exact .inr f5')); have HB5 : Hid (b5 < w5.heap.size) := Lib.hid f5'.2; clear l5 s5 s5' m5 z5 f5 f5')
    | (go_at_call 9; have hx := P3.out; clear hx; go_loud (refine (HL.out _ _ _ _ _ 1 [100] 1 _ _ (P3.out.nil ((Mods.refl Nil w4).alloc _)) (by omega) (by omega) rfl (by omega) (build_at (n := 1) rfl rfl rfl (by simp [maxLen])) 33 awL ae4 aw4).mono ?_); rintro e w4b ⟨rfl, s4, -⟩; have S4 := Lib.hid s4; clear s4 P3)
    | (go_at_call 9; have hx := P2.out; clear hx; go_loud (refine (HL.out _ _ _ _ _ 1 [99] 1 _ _ (P2.out.nil ((Mods.refl Nil w3).alloc _)) (by omega) (by omega) rfl (by omega) (build_at (n := 1) rfl rfl rfl (by simp [maxLen])) 0 awL ae3 aw3).mono ?_); rintro e w4 ⟨rfl, s3, -⟩; have P3 := Lib.hid s3; clear s3 P2)
    | (go_at_call 9; have hx := P1.out; clear hx; go_loud (refine (HL.out _ _ _ _ _ 4 [] 0 0 none P1.out (by omega) (by omega) rfl (by omega) (Sl.none_ _) 0 [(0, [97]), (4, [])] ae2 aw2).mono ?_); rintro e w3 ⟨rfl, s2, -⟩; have P2 := Lib.hid s2; clear s2 P1)
    | (go_at_call 9; have hx := S1.out; clear hx; go_loud (refine (HL.out _ _ _ _ _ 0 [97] 1 _ _ (S1.out.nil ((Mods.refl Nil w1).alloc _)) (by omega) (by omega) rfl (by omega) (build_at (n := 1) rfl rfl rfl (by simp [maxLen])) 0 [(0, [97])] ae1 aw1).mono ?_); rintro e w2 ⟨rfl, s1, -⟩; have P1 := Lib.hid s1; clear s1 S1)
    | (go_at_call 8; refine (lrn_new _).mono ?_; rintro e w1 ⟨b, rfl, s1⟩; have S1 := Lib.hid s1; clear s1))
  go_ret
  exact ⟨rfl, S7.out.m.trans M9.out⟩
end Go.Proofs.Ytbpflkjodiaokaa
