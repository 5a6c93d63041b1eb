/- ElectHears: ballots that were heard rise; one that is too low changes nothing. -/
import Derived.Test.YtpabbhhaagfoeaaHelp16
namespace Go.Proofs.Ytpabbhhaagfoeaa
set_option maxRecDepth 100000
open Go.RowKit
set_option linter.unusedVariables false
set_option linter.unusedSimpArgs false

set_option maxHeartbeats 6400000 in
theorem electHears_walk (w : World) {ai : Int} (wa : (Lit.int .u8 ai).wf = true) {A : Option Addr} {c n : Nat} {xs : List UInt8} (hn : xs.length = n) (hs : Sl w A c (bts xs)) :
    Calls Try.prog 6 #[.int .u8 ai, .slice A n c] w fun e w' => e = .returned (.bool true) ∧ Mods Nil w w' := by
  have ha0 := u8_of_wf wa
  obtain ⟨a, rfl⟩ : ∃ a : Nat, ai = (a : Int) := ⟨ai.toNat, by omega⟩
  have hand := u8_and31n a (by omega)
  have HS := Lib.hid hs
  have HNL := Lib.hid hn
  by_cases h60 : 60 < n
  · have h60I : decide ((60 : Int) < (n : Int)) = true := by simp; omega
    have h60N : decide (60 < n) = true := by simp; omega
    clear hs hn wa ha0 hand
    go_enter Try.func6, Try.ntmps6
    go_wp2_with (go_at_call 28; refine (awake16_any _).mono ?_; rintro e w1 ⟨rfl, m1⟩; have M1 := Lib.hid m1; clear m1)
    go_ret
    exact ⟨rfl, M1.out⟩
  have h60I : decide ((60 : Int) < (n : Int)) = false := by simp; omega
  have h60N : decide (60 < n) = false := by simp; omega
  obtain ⟨m, hm⟩ : ∃ m, a % 32 = m := ⟨_, rfl⟩
  rw [hm] at hand
  have hm31 : m ≤ 31 := by omega
  have hw1 : IntKind.i64.wrap (m : Int) = (m : Int) := wrapN (by omega)
  have hw2 : IntKind.i64.wrap ((m : Int) + 1) = ((m + 1 : Nat) : Int) := wrapN (n := m + 1) (by omega)
  have HN : Hid (∀ W, Mods Nil w W → Calls Try.prog 29 #[.int .i64 (m : Int), .int .i64 5] W fun e V => ∃ b, e = .returned (.tuple #[.pointer (some ⟨b, 0, none⟩), .int .i64 0]) ∧ ES w V b (5 * (m + 1)) (5 * (m + 1)) 0 ∧ W.heap.size ≤ b ∧ Mods Nil W V) := Lib.hid (fun W hW => es_new (p := 5) hW hm31 (by omega) (by omega))
  obtain ⟨m1', hm1⟩ : ∃ x, m + 1 = x := ⟨_, rfl⟩
  rw [hm1] at HN hw2
  obtain ⟨t, ht⟩ : ∃ t, 5 * m1' = t := ⟨_, rfl⟩
  have hw3 : IntKind.i64.wrap (5 * (m1' : Int)) = (t : Int) := by rw [show (5 : Int) * (m1' : Int) = (t : Int) by omega]; exact wrapN (by omega)
  rw [ht] at HN
  have HT : Hid (1 ≤ t ∧ t ≤ 160) := Lib.hid (by omega)
  have hn60 : n ≤ 60 := by omega
  clear wa ha0 hm hm31 hm1 ht hs hn h60
  go_enter Try.func6, Try.ntmps6
  go_wp2_with (first
    | (go_at_call 28; refine (awake16_any _).mono ?_; rintro e w1 ⟨rfl, m1⟩; have M1 := Lib.hid m1; clear m1)
    | (go_at_call 29; refine (HN.out _ M1.out).mono ?_; rintro e w2 ⟨g, rfl, s2, _, _⟩; have S2 := Lib.hid s2; clear s2))
  go_loopw [8, 9] (fun x y wr => ∃ i left top : Nat, x = .int .u64 (top : Int) ∧ y = .int .i64 (i : Int) ∧ i ≤ n ∧ Hid (EOk t left) ∧ ES w wr g t left top) (fun _ y _ => n - (intOf y).toNat)
  case atStart => exact ⟨0, t, 0, rfl, rfl, Nat.zero_le _, Lib.hid ⟨HT.out.1, Nat.le_refl _, by have := HT.out.2; omega⟩, S2.out⟩
  case round =>
    obtain ⟨i, left, top, rfl, rfl, hi, HK, hss⟩ := hrel
    have S := Lib.hid hss
    clear hss S2 HN
    by_cases hlt : i < n
    · have hltI : (i : Int) < (n : Int) := by omega
      have hltN : decide (i < n) = true := by simp; omega
      obtain ⟨v, hv⟩ : ∃ v, xs[i]'(by rw [HNL.out]; exact hlt) = v := ⟨_, rfl⟩
      have HV : Hid (∀ V, Mods Nil w V → ∃ b1 o1, A = some ⟨b1, o1, none⟩ ∧ V.cell? ⟨b1, o1 + i, none⟩ = some (.int .u8 (v.toNat : Int))) := Lib.hid (fun V hV => by
        obtain ⟨b1, o1, h1, _, h2⟩ := (HS.out.mods hV (fun _ _ h => h)).at_ (by rw [bts_length, HNL.out]; omega)
        exact ⟨b1, o1, h1, by rw [h2 i _ (bts_get xs i (by rw [HNL.out]; exact hlt)), hv]⟩)
      have hb15 := u8_and15n v.toNat v.toNat_lt
      obtain ⟨b, hb⟩ : ∃ b, v.toNat % 16 = b := ⟨_, rfl⟩
      rw [hb] at hb15
      have hb16 : b < 16 := by omega
      have hwb : IntKind.u64.wrap (b : Int) = (b : Int) := by rw [IntKind.wrap_u64]; omega
      obtain ⟨b1, o1, rfl, hc⟩ := HV.out _ S.out.m
      have HTK : Hid (Calls Try.prog 31 #[.pointer (some ⟨g, 0, none⟩)] wr fun e V => e = .returned (.bool (decide (left ≤ 1))) ∧ ES w V g t (eLeft t left) top ∧ Mods (EN g) wr V) := Lib.hid (S.out.tick HK.out)
      have HK1 := Lib.hid (eLeft_ok HK.out)
      obtain ⟨l1, hl1⟩ : ∃ l1, eLeft t left = l1 := ⟨_, rfl⟩
      obtain ⟨tk, htk⟩ : ∃ tk, decide (left ≤ 1) = tk := ⟨_, rfl⟩
      rw [hl1] at HK1 HTK
      rw [htk] at HTK
      clear hl1 htk hb hv hc HK
      by_cases hbt : b < top
      · have hg : decide ((top : Int) ≤ (b : Int)) = false := by simp; omega
        have hgN : decide (top ≤ b) = false := by simp; omega
        have HBT := Lib.hid hbt
        clear hbt
        go_wp2_with (first
          | (go_at_call 35; have hx := S6.out; clear hx; refine (S6.out.left_).mono ?_; rintro e w7 ⟨rfl, s7, _⟩; have S7 := Lib.hid s7; clear s7 S6)
          | (go_at_call 36; refine (S5.out.top_).mono ?_; rintro e w6 ⟨rfl, s6, _⟩; have S6 := Lib.hid s6; clear s6 S5)
          | (go_at_call 33; refine (S4.out.low HBT.out).mono ?_; rintro e w5 ⟨rfl, s5, _⟩; have S5 := Lib.hid s5; clear s5 S4)
          | (go_at_call 35; refine (S3.out.left_).mono ?_; rintro e w4 ⟨rfl, s4, _⟩; have S4 := Lib.hid s4; clear s4 S3; obtain ⟨b2, o2, he, hc⟩ := HV.out _ S4.out.m; obtain ⟨rfl, rfl⟩ : b1 = b2 ∧ o1 = o2 := (by simpa using he); clear he)
          | (go_at_call 31; refine (HTK.out).mono ?_; rintro e w3 ⟨rfl, s3, _⟩; have S3 := Lib.hid s3; clear s3))
        exact ⟨⟨i + 1, l1, top, rfl, by go_num, by omega, HK1, S7.out⟩, by simp [intOf]; omega⟩
      · have hg : decide ((top : Int) ≤ (b : Int)) = true := by simp; omega
        have hgN : decide (top ≤ b) = true := by simp; omega
        have HBT : Hid (top ≤ b) := Lib.hid (by omega)
        clear hbt
        go_wp2_with (first
          | (go_at_call 35; have hx := S6.out; clear hx; refine (S6.out.left_).mono ?_; rintro e w7 ⟨rfl, s7, _⟩; have S7 := Lib.hid s7; clear s7 S6)
          | (go_at_call 36; refine (S5.out.top_).mono ?_; rintro e w6 ⟨rfl, s6, _⟩; have S6 := Lib.hid s6; clear s6 S5)
          | (go_at_call 33; refine (S4.out.heard HBT.out).mono ?_; rintro e w5 ⟨rfl, s5, _⟩; have S5 := Lib.hid s5; clear s5 S4)
          | (go_at_call 35; refine (S3.out.left_).mono ?_; rintro e w4 ⟨rfl, s4, _⟩; have S4 := Lib.hid s4; clear s4 S3; obtain ⟨b2, o2, he, hc⟩ := HV.out _ S4.out.m; obtain ⟨rfl, rfl⟩ : b1 = b2 ∧ o1 = o2 := (by simpa using he); clear he)
          | (go_at_call 31; refine (HTK.out).mono ?_; rintro e w3 ⟨rfl, s3, _⟩; have S3 := Lib.hid s3; clear s3))
        exact ⟨⟨i + 1, t, b, rfl, by go_num, by omega, Lib.hid ⟨HT.out.1, Nat.le_refl _, by have := HT.out.2; omega⟩, S7.out⟩, by simp [intOf]; omega⟩
    · obtain rfl : i = n := by omega
      have hltI : decide ((i : Int) < (i : Int)) = false := by simp
      clear hlt
      go_wp2_with fail
      go_ret
      exact ⟨rfl, S.out.m⟩
end Go.Proofs.Ytpabbhhaagfoeaa
