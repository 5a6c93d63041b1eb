/- Layer 7's statements: is a disk the model's? -/
import Derived.Test.YtdllgmhipenidaaHelp7b
import Derived.Test.YtdllgmhipenidaaRef06B
namespace Go.Proofs.Ytdllgmhipenidaa
set_option maxRecDepth 100000
open Go.RowKit
set_option linter.unusedVariables false

set_option maxHeartbeats 6400000 in
theorem alike_any (w : World) {base db : Nat} {A B : Option Addr} {n c m k : Nat} {left : Int} {down : Bool} {d : PD} (h : DiskAt w base db d) (hr : RdAt w A c B k d) (hn : d.L.length = n) (hm : d.W.length = m) (hd : d.down = down) (hlin : n ≤ 1000) :
    Calls Try.prog 31 #[.pointer (some ⟨db, 0, none⟩), .agg #[.slice A n c, .slice B m k, .int .i64 left, .bool down]] w fun e w' => e = .returned (.bool true) ∧ Mods Nil w w' := by
  have M1 := Lib.hid ((Mods.refl Nil w).alloc (.cells #[.slice A n c, .slice B m k, .int .i64 left, .bool down] 31))
  have hb := Blk.new w 31 #[.slice A n c, .slice B m k, .int .i64 left, .bool down]
  obtain ⟨w1, hw1⟩ : ∃ w1, w.alloc (.cells #[.slice A n c, .slice B m k, .int .i64 left, .bool down] 31) = w1 := ⟨_, rfl⟩
  rw [hw1] at M1 hb
  have HD := Lib.hid (h.nil M1.out)
  have HR := Lib.hid (hr.mods M1.out)
  have HN := Lib.hid hn
  have HM := Lib.hid hm
  have HDN := Lib.hid hd
  have HB := Lib.hid hb
  have HLEN : Hid (∀ W, Mods Nil w1 W → Calls Try.prog 64 #[.pointer (some ⟨db, 0, none⟩)] W fun e w' => e = .returned (.int .i64 (n : Int)) ∧ W = w') := Lib.hid (fun W hW => by have := dlen_any (HD.out.nil hW); rw [hn] at this; exact this)
  have HWT : Hid (∀ W, Mods Nil w1 W → Calls Try.prog 86 #[.pointer (some ⟨db, 0, none⟩)] W fun e w' => e = .returned (.int .i64 (m : Int)) ∧ W = w') := Lib.hid (fun W hW => by have := dwaits_any (HD.out.nil hW); rw [hm] at this; exact this)
  have HDO : Hid (∀ W, Mods Nil w1 W → Calls Try.prog 85 #[.pointer (some ⟨db, 0, none⟩)] W fun e w' => e = .returned (.bool down) ∧ W = w') := Lib.hid (fun W hW => by have := ddown_any (HD.out.nil hW); rw [hd] at this; exact this)
  have q0 := fun W (h : Mods Nil w1 W) => (HB.out.mods h (fun h => h)).four6.1.1
  have q1 := fun W (h : Mods Nil w1 W) => (HB.out.mods h (fun h => h)).four6.1.2.1
  have q2 := fun W (h : Mods Nil w1 W) => (HB.out.mods h (fun h => h)).four6.1.2.2.1
  have q3 := fun W (h : Mods Nil w1 W) => (HB.out.mods h (fun h => h)).four6.1.2.2.2
  have hdd : (down != down) = false := by simp
  clear h hr hn hm hd hb
  go_enter Try.func31, Try.ntmps31
  go_wp2_with fail
  go_region_held (fun W => Mods Nil w1 W) (first | assumption | exact (Mods.refl Nil w1).drew) (first
    | (go_at_call 64; refine (HLEN.out _ (by first | assumption | exact (Mods.refl Nil w1).drew)).mono ?_; rintro e w2 ⟨rfl, rfl⟩)
    | (go_at_call 85; refine (HDO.out _ (by first | assumption | exact (Mods.refl Nil w1).drew)).mono ?_; rintro e w3 ⟨rfl, rfl⟩)
    | (go_at_call 86; refine (HWT.out _ (by first | assumption | exact (Mods.refl Nil w1).drew)).mono ?_; rintro e w4 ⟨rfl, rfl⟩))
  all_goals
    go_wp2_with fail
    clear HLEN HWT HDO
    go_loopw [5] (fun x wr => ∃ (j : Nat), j ≤ n + 2 ∧ x = .int .i64 ((j : Int) - 1) ∧ Mods Nil w1 wr) (fun x _ => n + 2 - (intOf x + 1).toNat)
    case atStart => exact ⟨0, Nat.zero_le _, rfl, by first | exact Mods.refl Nil w1 | exact (Mods.refl Nil w1).drew⟩
    case round =>
      obtain ⟨j, hj, rfl, hmo⟩ := hrel
      have HMO := Lib.hid hmo
      clear hmo
      obtain ⟨i, hi⟩ : ∃ i : Int, (j : Int) - 1 = i := ⟨_, rfl⟩
      rw [hi]
      by_cases hlt : i ≤ (n : Int)
      · have hj1 : j + 1 ≤ n + 2 := by omega
        have hw : IntKind.i64.wrap (i + 1) = i + 1 := by rw [IntKind.wrap_i64]; omega
        have hE : n + 2 - (i + 1 + 1).toNat < n + 2 - (i + 1).toNat := by omega
        have hNext : i + 1 = ((j + 1 : Nat) : Int) - 1 := by omega
        have HN1 := Lib.hid hNext
        have HE1 := Lib.hid hE
        have HR1 := Lib.hid (dread_any (HD.out.nil HMO.out) i)
        have HR2 : Hid (∀ W, Mods Nil w1 W → _) := Lib.hid (fun W (hW : Mods Nil w1 W) => r6read_any W (HR.out.mods hW) HN.out HM.out HDN.out (left := left) i)
        generalize d.read i = q at HR1 HR2
        obtain ⟨bs, x⟩ := q
        have z0 := q0 wr HMO.out
        have z1 := q1 wr HMO.out
        have z2 := q2 wr HMO.out
        have z3 := q3 wr HMO.out
        clear hNext hE hi
        go_wp2_with (first
          | (go_at_call 87; refine (HR1.out).mono ?_; rintro e w2 ⟨A2, c2, m2, rfl, hl2, hs2, mm2⟩; have HL2 := Lib.hid hl2; have HS2 := Lib.hid hs2; have M2 := Lib.hid (HMO.out.trans mm2); have y0 := q0 w2 M2.out; have y1 := q1 w2 M2.out; have y2 := q2 w2 M2.out; have y3 := q3 w2 M2.out; clear hl2 hs2 mm2 z0 z1 z2 z3)
          | (go_at_call 67; refine (HR2.out _ M2.out).mono ?_; rintro e w3 ⟨rfl, mm3⟩; have V3 := conv7 HL2.out (HS2.out.mods mm3 (fun _ _ h => h)); have M3 := Lib.hid (M2.out.trans mm3); clear mm3 y0 y1 y2 y3))
        exact ⟨⟨j + 1, hj1, by rw [HN1.out], M3.out⟩, by simpa [intOf] using HE1.out⟩
      · have z0 := q0 wr HMO.out
        go_wp2_with fail
        go_ret
        exact ⟨rfl, M1.out.trans HMO.out⟩
end Go.Proofs.Ytdllgmhipenidaa
