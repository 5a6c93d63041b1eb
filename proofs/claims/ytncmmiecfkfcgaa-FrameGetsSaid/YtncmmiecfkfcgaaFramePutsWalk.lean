/- FramePuts' walk. -/
import Derived.Test.YtncmmiecfkfcgaaFrameBigWalk
import Derived.Test.YtncmmiecfkfcgaaRef03
namespace Go.Proofs.Ytncmmiecfkfcgaa
open Go.RowKit
set_option linter.unusedVariables false

theorem got_of {k : UInt8} {body r : List UInt8} (hb : body.length ≤ 65535) : getE (frameOf k body ++ r) = 0 ∧ gotK (frameOf k body ++ r) = k ∧ gotB (frameOf k body ++ r) = body ∧ gotN (frameOf k body ++ r) = (frameOf k body).length := by
  obtain ⟨h1, h2, h3⟩ := get_of (k := k) (r := r) hb
  have h4 := getN_of (k := k) (r := r) hb
  unfold gotK gotB gotN
  rw [if_pos h1, if_pos h1, if_pos h1]
  exact ⟨h1, h2, h3, h4⟩
theorem conv_sl {w : World} {A : Option Addr} {n c : Nat} {xs : List UInt8} (hn : xs.length = n) (hs : Sl w A c (bts xs)) : (convert 22 9 (.slice A n c)).run Try.prog w = .ok (.string (strOf xs)) w :=
  run_string_sl _ 22 5 Try.underlying22 Try.underlying5 A n c _ hn hs 9 Try.underlying9

set_option maxRecDepth 100000 in
set_option maxHeartbeats 6400000 in
theorem framePuts_nat (w : World) (k : UInt8) {A : Option Addr} {c n : Nat} {body : List UInt8} (hn : body.length = n) (hs : Sl w A c (bts body)) {B : Option Addr} {d m : Nat} {ys : List UInt8} (hm : ys.length = m) (hy : Sl w B d (bts ys)) :
    Calls Try.prog 4 #[.int .u8 (k.toNat : Int), .slice A n c, .slice B m d] w fun e w' => e = .returned (.bool true) ∧ Mods Nil w w' := by
  have hmx := hs.max
  have hle := hs.le
  have hmy := hy.max
  have hley := hy.le
  unfold maxLen at hmx hmy
  simp at hle hley
  by_cases hbig : 400 < n
  · have hb : (400 : Int) < (n : Int) := by omega
    have hd1 : decide ((400 : Int) < (n : Int)) = true := by simp; omega
    clear hs hy
    go_enter Try.func4, Try.ntmps4
    go_wp2_with (first | (go_at_call 9; refine (awake_any _).mono ?_; rintro e w1 ⟨rfl, m1⟩; have M1 := Lib.hid m1; clear m1))
    go_ret
    exact ⟨rfl, M1.out⟩
  by_cases hbig2 : 100 < m
  · have hb : (100 : Int) < (m : Int) := by omega
    have hb8 : (n : Int) ≤ 400 := by omega
    clear hs hy
    go_enter Try.func4, Try.ntmps4
    go_wp2_with (first | (go_at_call 9; refine (awake_any _).mono ?_; rintro e w1 ⟨rfl, m1⟩; have M1 := Lib.hid m1; clear m1))
    go_ret
    exact ⟨rfl, M1.out⟩
  · have hb8 : (n : Int) ≤ 400 := by omega
    have hb100 : (m : Int) ≤ 100 := by omega
    have hn400 : n ≤ 400 := by omega
    have hm100 : m ≤ 100 := by omega
    obtain ⟨i0, hi, hz0, hz1, hz2⟩ := info_parts infoByte
    obtain ⟨F, hF⟩ : ∃ F, frameOf k body = F := ⟨_, rfl⟩
    obtain ⟨f, hf⟩ : ∃ f, F.length = f := ⟨_, rfl⟩
    have hfl := frameOf_length k body
    have hpu := putU_length body.length (by omega)
    rw [hF, hf] at hfl
    have hf414 : f ≤ 414 := by omega
    have hG := got_of (k := k) (r := ys) (body := body) (by omega)
    rw [hF, hf] at hG
    have HF : Hid ((frameOf k body).length = f) := by show _ = _; rw [hF]; exact hf
    have HFF := Lib.hid hF
    have HFL := Lib.hid hf
    have HG := Lib.hid hG
    have HN := Lib.hid hn
    have HS := Lib.hid hs
    have HM := Lib.hid hm
    have HY := Lib.hid hy
    have HAL := Lib.hid (show (F ++ ys).length = f + m by rw [List.length_append, hf, hm])
    have e1 := strOf_toList F
    have e2 := strOf_toList body
    clear hs hy hn hm hle hley hbig hbig2 hF hf hfl hpu hG
    go_enter Try.func4, Try.ntmps4
    go_wp2_with (first
      | (go_at_call 9; refine (awake_any _).mono ?_; rintro e w1 ⟨rfl, m1⟩; have M1 := Lib.hid m1; clear m1)
      | (go_at_call 14; refine (fput_to HN.out (by omega) HF.out (HS.out.mods M1.out (fun _ _ h => h))).mono ?_; rintro e w2 ⟨A2, c2, rfl, s2, -, -, -, m2⟩; rw [HFF.out] at s2; have S2 := Lib.hid s2; have M2 := Lib.hid (M1.out.trans m2); have kb2 := conv_sl HN.out (HS.out.mods M2.out (fun _ _ h => h)); clear s2 m2)
      | (go_at_call 15; refine (r3put_any _ k body (by have := HN.out; omega)).mono ?_; rintro e w3 ⟨he, m3⟩; rw [HFF.out] at he; subst he; have S3 := Lib.hid (S2.out.mods m3 (fun _ _ h => h)); have M3 := Lib.hid (M2.out.trans m3); have kb3 := conv_sl HFL.out S3.out; clear m3)
      | (at_builtin; refine wpList_append_sl _ rfl _ _ 22 rfl w3.heap.size 5 i0 (.int .u8 0) 1 Try.underlying22 hi hz0 hz1 hz2 rfl (.slice none 0 0) 0 [] rfl (World.ownsRow_nil _ _ _ _) A2 f c2 (bts F) rfl (by rw [bts_length]; exact HFL.out) S3.out (bts_one _) (by omega) (by unfold maxLen; omega) (Nat.le_refl _) ?_; intro v4 w4 hown hgrow hblk; simp only [Nat.zero_add, List.nil_append] at hown; have HO4 := Lib.hid hown; have M4 := Lib.hid (M3.out.trans (Mods.ofGrown hgrow)); have G4 := Lib.hid (Mods.ofGrown hgrow).size; clear hown hgrow hblk)
      | (at_builtin; refine wpList_append_sl _ rfl _ _ 22 rfl w3.heap.size 5 i0 (.int .u8 0) 1 Try.underlying22 hi hz0 hz1 hz2 rfl v4 f (bts F) rfl HO4.out B m d (bts ys) rfl (by rw [bts_length]; exact HM.out) (HY.out.mods M4.out (fun _ _ h => h)) (bts_one _) (by omega) (by unfold maxLen; omega) G4.out ?_; intro v5 w5 hown hgrow hblk; rw [← bts_append] at hown; have M5 := Lib.hid (M4.out.nil_trans ((Mods.refl (fun q => v4.ownBlock = some q) _).grown hgrow (fun q hq _ => hq)) (fun i h => Nat.le_trans M3.out.size (HO4.out.lt i h).1)); obtain ⟨A5, c5, rfl, -, s5, -⟩ := own_slice hown; have S5 := Lib.hid s5; clear hown hgrow hblk s5)
      | (go_at_call 10; refine (get_any HAL.out S5.out).mono ?_; rintro e w6 ⟨A6, c6, he, s6, b6, m6⟩; rw [HG.out.1, HG.out.2.1, HG.out.2.2.1, HG.out.2.2.2, HN.out] at he; rw [HG.out.2.2.1] at s6; subst he; obtain ⟨d0, d1, d2, d3⟩ := (Blk.new w6 25 #[.int .u8 (k.toNat : Int), .slice A6 n c6]).two; have M6 := Lib.hid ((M5.out.trans m6).alloc (.cells #[.int .u8 (k.toNat : Int), .slice A6 n c6] 25)); have kb6 := conv_sl HN.out (s6.alloc (.cells #[.int .u8 (k.toNat : Int), .slice A6 n c6] 25)); have kb7 := conv_sl HN.out (HS.out.mods M6.out (fun _ _ h => h)); clear s6 b6 m6))
    go_ret
    exact ⟨rfl, M6.out⟩
theorem framePuts_walk (w : World) {a0 : Int} (w0 : (Lit.int .u8 a0).wf = true) {A : Option Addr} {c n : Nat} {body : List UInt8} (hn : body.length = n) (hs : Sl w A c (bts body)) {B : Option Addr} {d m : Nat} {ys : List UInt8} (hm : ys.length = m) (hy : Sl w B d (bts ys)) :
    Calls Try.prog 4 #[.int .u8 a0, .slice A n c, .slice B m d] w fun e w' => e = .returned (.bool true) ∧ Mods Nil w w' := by
  obtain ⟨k, rfl⟩ := u8_nat w0
  exact framePuts_nat w k hn hs hm hy
end Go.Proofs.Ytncmmiecfkfcgaa
