/- SumsOf's walk. -/
import Derived.Test.YtmmegninbopdlaaAwake02
import Derived.Test.YtmmegninbopdlaaRef02b
import Derived.Test.YtmmegninbopdlaaSumsLongWalk
import Derived.Deep.RegionHeld
namespace Go.Proofs.Ytmmegninbopdlaa
open Go.RowKit
set_option linter.unusedVariables false

theorem flat_take_succ (l : List Row) (j : Nat) (h : j < l.length) : flat (l.take (j + 1)) = flat (l.take j) ++ l[j].xs := by rw [List.take_succ_eq_append_getElem h, flat_snoc]

set_option maxRecDepth 100000 in
set_option maxHeartbeats 6400000 in
theorem sumsOf_walk (w : World) {A : Option Addr} {c n : Nat} {l : List Row} (hn : l.length = n) (hs : Sl w A c (l.map Row.val)) (hr : ∀ r ∈ l, r.ok w) {B : Option Addr} {d m : Nat} {ys : List UInt8} (hm : ys.length = m) (hy : Sl w B d (bts ys)) :
    Calls Try.prog 3 #[.slice A n c, .slice B m d] w fun e w' => e = .returned (.bool true) ∧ Mods Nil w w' := by
  have hmx := hs.max
  have hle := hs.le
  have hmy := hy.max
  have hley := hy.le
  unfold maxLen at hmx hmy
  simp at hle hley
  by_cases hbig : 8 < n
  · have hb : (8 : Int) < (n : Int) := by omega
    have hd1 : decide ((8 : Int) < (n : Int)) = true := by simp; omega
    clear hs hr hy
    go_enter Try.func3, Try.ntmps3
    go_wp2_with (first | (go_at_call 8; refine (awake_any _).mono ?_; rintro e w1 ⟨rfl, m1⟩; have M1 := Lib.hid m1; clear m1))
    go_ret
    exact ⟨rfl, M1.out⟩
  by_cases hbig2 : 300 < m
  · have hb : (300 : Int) < (m : Int) := by omega
    have hb8 : (n : Int) ≤ 8 := by omega
    clear hs hr hy
    go_enter Try.func3, Try.ntmps3
    go_wp2_with (first | (go_at_call 8; refine (awake_any _).mono ?_; rintro e w1 ⟨rfl, m1⟩; have M1 := Lib.hid m1; clear m1))
    go_ret
    exact ⟨rfl, M1.out⟩
  · have hb8 : (n : Int) ≤ 8 := by omega
    have hb300 : (m : Int) ≤ 300 := by omega
    have hn8 : n ≤ 8 := by omega
    have hm300 : m ≤ 300 := by omega
    obtain ⟨p, hp⟩ : ∃ p, m + 4 = p := ⟨_, rfl⟩
    have HN := Lib.hid hn
    have HS := Lib.hid hs
    have HR := Lib.hid hr
    have HM := Lib.hid hm
    have HY := Lib.hid hy
    have HP := Lib.hid hp
    clear hs hr hy hn hm hp hle hley hbig hbig2
    go_enter Try.func3, Try.ntmps3
    go_wp2_with (first | (go_at_call 8; refine (awake_any _).mono ?_; rintro e w1 ⟨rfl, m1⟩; have M1 := Lib.hid m1; have S1 := Lib.hid (HS.out.mods m1 (fun _ _ h => h)); have Y1 := Lib.hid (HY.out.mods m1 (fun _ _ h => h)); have R1 := Lib.hid (fun r hr => Row.ok.mods (HR.out r hr) m1); clear m1))
    have hstr0 : (Value.string { data := #[] }) = .string (strOf []) := rfl
    go_loop [6, 7] (fun s i => ∃ j : Nat, j ≤ n ∧ i = .int .i64 j ∧ s = .string (strOf (flat (l.take j))) ∧ (flat (l.take j)).length ≤ 200 * j) (fun _ i => n - (intOf i).toNat)
    case atStart => exact ⟨0, by omega, rfl, rfl, by simp [flat]⟩
    case round =>
      clear hstr0
      obtain ⟨j, hj, rfl, rfl, hfl⟩ := hrel
      by_cases hlt : j < n
      · have hjI : (j : Int) < (n : Int) := by omega
        have hjl : j < l.length := by rw [HN.out]; exact hlt
        obtain ⟨b, off, rfl, _, hcell⟩ := S1.out.at_ (by simp; omega)
        have h0 : w1.cell? ⟨b, off + j, none⟩ = some (.slice l[j].A l[j].xs.length l[j].c) := hcell j _ (by simp [hjl, Row.val])
        have hok := R1.out l[j] (List.getElem_mem hjl)
        have hnext := flat_take_succ l j hjl
        generalize l[j] = r at h0 hok hnext
        obtain ⟨q, hq⟩ : ∃ q, r.xs.length = q := ⟨_, rfl⟩
        rw [hq] at h0
        by_cases h200 : 200 < q
        · have h200I : (200 : Int) < (q : Int) := by omega
          clear hcell hok hnext hq hfl hjl
          go_wp2_with fail
          go_ret
          exact ⟨rfl, M1.out⟩
        · have h200I : (q : Int) ≤ 200 := by omega
          have kc := run_string_sl (P := Try.prog) w1 23 5 Try.underlying23 Try.underlying5 r.A q r.c r.xs hq hok 9 Try.underlying9
          obtain ⟨fs, hfs⟩ : ∃ fs, flat (l.take j) = fs := ⟨_, rfl⟩
          rw [hfs] at hnext hfl ⊢
          have hadd := fun W => string_add Try.prog fs r.xs (by omega) W
          have HX := Lib.hid hnext
          have HL := Lib.hid (show (fs ++ r.xs).length ≤ 200 * (j + 1) by simp; omega)
          clear hcell hok hnext hq hfl hjl hfs
          go_wp2_with fail
          exact ⟨⟨j + 1, by omega, by go_num, by rw [HX.out], by rw [HX.out]; exact HL.out⟩, by simp [intOf]; omega⟩
      · obtain rfl : j = n := by omega
        have HF := Lib.hid (show (flat l).length ≤ 1600 by have := HN.out; rw [← HN.out, List.take_length] at hfl; omega)
        have HE := Lib.hid (show flat (l.take j) = flat l by rw [← HN.out, List.take_length])
        clear hfl
        rw [HE.out]
        go_wp2_with fail
        have kcB : ∀ W : World, Mods Nil w1 W → (convert 23 9 (.slice B m d)).run Try.prog W = .ok (.string (strOf ys)) W := fun W hW => run_string_sl W 23 5 Try.underlying23 Try.underlying5 B m d _ HM.out (Y1.out.mods hW (fun _ _ h => h)) 9 Try.underlying9
        have hq0 : Mods Nil w1 w1.drew := (Mods.refl Nil w1).drew
        have e1 := strOf_toList (sealedOf ys)
        clear hj hlt hmx hmy
        go_region_held (fun W => Mods Nil w1 W) (first | exact (Mods.refl Nil w1).drew | assumption) (first
          | (go_at_call 9; (refine (of_any HN.out (S1.out.mods (S := Nil) (by first | exact (Mods.refl Nil w1).drew | assumption) (fun _ _ h => h)) (fun r hr => Row.ok.mods (R1.out r hr) (by first | exact (Mods.refl Nil w1).drew | assumption))).mono ?_; rintro e w2 ⟨rfl, m2⟩; have hq2 : Mods Nil w1 w2 := Mods.trans (by first | exact (Mods.refl Nil w1).drew | assumption) m2; clear m2))
          | (go_at_call 10; (refine (rof_any _ (flat l) (by have := HF.out; omega)).mono ?_; rintro e w3 ⟨rfl, rfl⟩))
          | (go_at_call 11; (refine (sealed_to HM.out HP.out (by have := HP.out; omega) (Y1.out.mods (S := Nil) (by assumption) (fun _ _ h => h))).mono ?_; rintro e w4 ⟨A4, c4, rfl, s4, _, _, _, m4⟩; have hq4 : Mods Nil w1 w4 := Mods.trans (by assumption) m4; have hr4 := Mods.refl Nil w4; have kcO : ∀ W : World, Mods Nil w4 W → (convert 23 9 (.slice A4 p c4)).run Try.prog W = .ok (.string (strOf (sealedOf ys))) W := (fun W hW => run_string_sl W 23 5 Try.underlying23 Try.underlying5 A4 p c4 _ (by rw [sealedOf_length, HM.out, HP.out]) (s4.mods hW (fun _ _ h => h)) 9 Try.underlying9); clear s4 m4))
          | (go_at_call 12; (refine (rsealed_any _ ys (by have := HM.out; omega)).mono ?_; rintro e w5 ⟨rfl, m5⟩; have hq5 : Mods Nil w1 w5 := Mods.trans (by assumption) m5))
          | (go_at_call 13; (refine (right_any HM.out (Y1.out.mods (S := Nil) (by assumption) (fun _ _ h => h))).mono ?_; rintro e w6 ⟨rfl, m6⟩; have hq6 : Mods Nil w1 w6 := Mods.trans (by assumption) m6))
          | (go_at_call 14; (refine (rright_any _ ys (by have := HM.out; omega)).mono ?_; rintro e w7 ⟨rfl, m7⟩; have hq7 : Mods Nil w1 w7 := Mods.trans (by assumption) m7)))
        all_goals
          go_wp2
          go_ret
          refine ⟨rfl, M1.out.trans ?_⟩
          assumption
end Go.Proofs.Ytmmegninbopdlaa
