/- Layer 7's statements: has a segment what the model has? -/
import Derived.Test.YtdllgmhipenidaaHelp7b
import Derived.Test.YtdllgmhipenidaaRef07e
namespace Go.Proofs.Ytdllgmhipenidaa
set_option maxRecDepth 100000
open Go.RowKit
set_option linter.unusedVariables false

set_option maxHeartbeats 6400000 in
theorem has_any (w : World) {base sb db mb : Nat} {A : Option Addr} {c : Nat} {s : PSeg} (h : SegIn w base sb db mb s) (hr : RsAt w A c s) :
    Calls Try.prog 32 #[.pointer (some ⟨sb, 0, none⟩), rsV A c s] w fun e w' => e = .returned (.bool true) ∧ Mods Nil w w' := by
  have hfit := h.ok.fit
  have hus := h.ok.used
  have hln := h.ok.len
  have hlen : s.L.length ≤ 65536 := by omega
  obtain ⟨n, hn⟩ : ∃ n, s.L.length = n := ⟨_, rfl⟩
  obtain ⟨su, hsu⟩ : ∃ su, s.sure = su := ⟨_, rfl⟩
  obtain ⟨sn, hsn⟩ : ∃ sn, s.n = sn := ⟨_, rfl⟩
  obtain ⟨us, husd⟩ : ∃ us, s.used = us := ⟨_, rfl⟩
  have hwf : IntKind.i64.wrap ((sn : Int) - (us : Int)) = ((sn - us : Nat) : Int) := by rw [IntKind.wrap_i64]; omega
  obtain ⟨fr, hfr⟩ : ∃ fr, sn - us = fr := ⟨_, rfl⟩
  rw [hfr] at hwf
  have HRR := Lib.hid (fun (V W : World) (hV : Mods Nil w V) i => r7read_any V (A := A) (c := c) s (hr.mods hV).sl i)
  unfold rsV at HRR ⊢
  rw [hn, hsu, hsn, husd] at HRR
  rw [hn, hsu, hsn, husd]
  generalize (s.start : Int) = v0 at HRR ⊢
  generalize (s.epoch : Int) = v2 at HRR ⊢
  generalize (s.gone : Int) = v6 at HRR ⊢
  generalize s.err = v7 at HRR ⊢
  have M1 := Lib.hid ((Mods.refl Nil w).alloc (.cells #[.int .i64 v0, .int .i64 (sn : Int), .int .u64 v2, .slice A n c, .int .i64 (us : Int), .int .i64 (su : Int), .int .i64 v6, .int .i64 v7] 39))
  have hb := Blk.new w 39 #[.int .i64 v0, .int .i64 (sn : Int), .int .u64 v2, .slice A n c, .int .i64 (us : Int), .int .i64 (su : Int), .int .i64 v6, .int .i64 v7]
  obtain ⟨w1, hw1⟩ : ∃ w1, w.alloc (.cells #[.int .i64 v0, .int .i64 (sn : Int), .int .u64 v2, .slice A n c, .int .i64 (us : Int), .int .i64 (su : Int), .int .i64 v6, .int .i64 v7] 39) = w1 := ⟨_, rfl⟩
  rw [hw1] at M1 hb
  have HS := Lib.hid (h.nil M1.out)
  have HB := Lib.hid hb
  have HLEN : Hid (∀ W, Mods Nil w1 W → Calls Try.prog 59 #[.pointer (some ⟨sb, 0, none⟩)] W fun e w' => e = .returned (.int .i64 (n : Int)) ∧ Mods Nil W w') := Lib.hid (fun W hW => by have := slen_in (HS.out.nil hW); rw [hn] at this; exact this)
  have HSU : Hid (∀ W, Mods Nil w1 W → Calls Try.prog 60 #[.pointer (some ⟨sb, 0, none⟩)] W fun e w' => e = .returned (.int .i64 (su : Int)) ∧ Mods Nil W w') := Lib.hid (fun W hW => by have := ssure_in (HS.out.nil hW); rw [hsu] at this; exact this)
  have HFR : Hid (∀ W, Mods Nil w1 W → Calls Try.prog 61 #[.pointer (some ⟨sb, 0, none⟩)] W fun e w' => e = .returned (.int .i64 (fr : Int)) ∧ Mods Nil W w') := Lib.hid (fun W hW => by have := sfree_in (HS.out.nil hW); rw [hsn, husd, hfr] at this; exact this)
  have q1 := fun W (h : Mods Nil w1 W) => (HB.out.mods h (fun h => h)).eight.1.2.1
  have q3 := fun W (h : Mods Nil w1 W) => (HB.out.mods h (fun h => h)).eight.1.2.2.2.1
  have q4 := fun W (h : Mods Nil w1 W) => (HB.out.mods h (fun h => h)).eight.1.2.2.2.2.1
  have q5 := fun W (h : Mods Nil w1 W) => (HB.out.mods h (fun h => h)).eight.1.2.2.2.2.2.1
  have HN65 := Lib.hid (show n ≤ 65536 by omega)
  clear h hr hn hsu hsn husd hfr hb hfit hus hln hlen
  go_enter Try.func32, Try.ntmps32
  go_wp2_with fail
  go_region_held (fun W => Mods Nil w1 W) (first | assumption | exact (Mods.refl Nil w1).drew) (first
    | (go_at_call 59; refine (HLEN.out _ (by first | assumption | exact (Mods.refl Nil w1).drew)).mono ?_; rintro e w2 ⟨rfl, m2⟩; have hq2 : Mods Nil w1 w2 := Mods.trans (by first | assumption | exact (Mods.refl Nil w1).drew) m2; clear m2)
    | (go_at_call 60; refine (HSU.out _ (by first | assumption | exact (Mods.refl Nil w1).drew)).mono ?_; rintro e w3 ⟨rfl, m3⟩; have hq3 : Mods Nil w1 w3 := Mods.trans (by first | assumption | exact (Mods.refl Nil w1).drew) m3; clear m3)
    | (go_at_call 61; refine (HFR.out _ (by first | assumption | exact (Mods.refl Nil w1).drew)).mono ?_; rintro e w4 ⟨rfl, m4⟩; have hq4 : Mods Nil w1 w4 := Mods.trans (by first | assumption | exact (Mods.refl Nil w1).drew) m4; clear m4))
  all_goals
    go_wp2_with fail
    clear HLEN HSU HFR
    have HMS : Hid (Mods Nil w1 _) := Lib.hid (by assumption)
    go_loopw [5] (fun x wr => ∃ (j : Nat), j ≤ n + 2 ∧ x = .int .i64 ((j : Int) - 1) ∧ Mods Nil w1 wr) (fun x _ => n + 2 - (intOf x + 1).toNat)
    case atStart => exact ⟨0, Nat.zero_le _, rfl, by first | exact HMS.out | assumption⟩
    case round =>
      clear HMS
      obtain ⟨j, hj, rfl, hmo⟩ := hrel
      have HMO := Lib.hid hmo
      clear hmo
      obtain ⟨i, hi⟩ : ∃ i : Int, (j : Int) - 1 = i := ⟨_, rfl⟩
      rw [hi]
      by_cases hlt : i ≤ (n : Int)
      · have hj1 : j + 1 ≤ n + 2 := by omega
        have hw : IntKind.i64.wrap (i + 1) = i + 1 := by rw [IntKind.wrap_i64]; have := HN65.out; omega
        have hE : n + 2 - (i + 1 + 1).toNat < n + 2 - (i + 1).toNat := by omega
        have hNext : i + 1 = ((j + 1 : Nat) : Int) - 1 := by omega
        have HN1 := Lib.hid hNext
        have HE1 := Lib.hid hE
        have HR1 := sread_in (HS.out.nil HMO.out) i
        unfold ReadTold at HR1
        replace HR1 := Lib.hid HR1
        have HR2 := Lib.hid (fun V hV => HRR.out V V hV i)
        generalize s.read i = q at HR1 HR2
        obtain ⟨bs, x⟩ := q
        have z3 := q3 wr HMO.out
        have qa := fun W (h : Mods Nil w1 W) => (HB.out.mods h (fun h => h)).eight.1
        clear hNext hE hi q1 q4 q5
        go_wp2_with (first
          | (go_at_call 58; refine (HR1.out).mono ?_; rintro e w2 ⟨A2, c2, m2, rfl, hl2, hs2, mm2⟩; have HL2 := Lib.hid hl2; have HS2 := Lib.hid hs2; have M2 := Lib.hid (HMO.out.trans mm2); obtain ⟨y0, y1, y2, y3, y4, y5, y6, y7⟩ := qa w2 M2.out; clear hl2 hs2 mm2 z3)
          | (go_at_call 88; refine (HR2.out _ (M1.out.trans M2.out)).mono ?_; rintro e w3 ⟨rfl, mm3⟩; have V3 := conv7 HL2.out (HS2.out.mods mm3 (fun _ _ h => h)); have M3 := Lib.hid (M2.out.trans mm3); clear mm3 y0 y1 y2 y3 y4 y5 y6 y7))
        exact ⟨⟨j + 1, hj1, by rw [HN1.out], M3.out⟩, by simpa [intOf] using HE1.out⟩
      · have z3 := q3 wr HMO.out
        go_wp2_with fail
        go_ret
        exact ⟨rfl, M1.out.trans HMO.out⟩
end Go.Proofs.Ytdllgmhipenidaa
